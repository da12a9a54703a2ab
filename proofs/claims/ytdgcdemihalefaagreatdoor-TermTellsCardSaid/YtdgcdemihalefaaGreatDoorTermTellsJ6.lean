/-
  Joined: FwQ, FwR, FwI, FwK, FwU.
-/
import Derived.Test.YtdgcdemihalefaaGreatDoorTermTellsJ1
import Derived.Test.YtdgcdemihalefaaGreatDoorTermTellsJ5
import Derived.Test.YtdgcdemihalefaaGreatDoorTermTellsJ3
import Derived.Test.YtdgcdemihalefaaGreatDoorTermTellsJ8
namespace Go.Proofs.YtdgcdemihalefaaGreatDoor
open Go.RowKit Np Rw Vp Up Qp Tp Pw Fw
def TmB (b : Nat) (w : World) (v : Value) (l : List Tm) : Prop :=
  ∃ (A : Option Addr) (c : Nat), v = .slice A l.length c ∧ l.length ≤ c ∧ c ≤ maxLen ∧ (A = none → c = 0) ∧ (0 < l.length → ∃ g o : Nat, A = some ⟨g, o, none⟩ ∧ g < b ∧ ∀ k x, l[k]? = some x → CellsAt w g (o + k * 11) (tmc x))
theorem TmB.below {b : Nat} {w w' : World} {v : Value} {l : List Tm} (h : TmB b w v l) (hb : Below b w w') : TmB b w' v l := by
  obtain ⟨A, c, hv, hc, hm, hz, H⟩ := h
  refine ⟨A, c, hv, hc, hm, hz, fun h0 => ?_⟩
  obtain ⟨g, o, hA, hg, hx⟩ := H h0
  exact ⟨g, o, hA, hg, fun k x hk j u hu => (hb.cell (p := ⟨g, o + k * 11 + j, none⟩) hg).trans (hx k x hk j u hu)⟩
theorem TmB.of {b : Nat} {w : World} {v : Value} {l : List Tm} (h : Tms w v l) (hb : w.heap.size ≤ b) : TmB b w v l := by
  obtain ⟨A, c, hv, hc, hm, hz, H⟩ := h
  refine ⟨A, c, hv, hc, hm, hz, fun h0 => ?_⟩
  obtain ⟨g, o, hA, hg, hx⟩ := H h0
  exact ⟨g, o, hA, by omega, hx⟩
theorem TmB.empty (b : Nat) (w : World) (ad : Addr) : TmB b w (.slice (some ad) 0 0) [] := ⟨some ad, 0, rfl, Nat.le_refl _, Nat.zero_le _, fun h => (by cases h), fun h => absurd h (by simp)⟩
theorem TmB.cons {b : Nat} {w : World} {v : Value} {x : Tm} {l : List Tm} (h : TmB b w v (x :: l)) : ∃ g o c : Nat, v = .slice (some ⟨g, o, none⟩) (l.length + 1) c ∧ l.length + 1 ≤ c ∧ c ≤ maxLen ∧ g < b ∧ Tm11 w g o x ∧ (c ≠ 1 → TmB b w (.slice (some ⟨g, o + 11, none⟩) l.length (c - 1)) l) ∧ (c = 1 → l = []) := by
  obtain ⟨A, c, rfl, hc, hm, -, H⟩ := h
  obtain ⟨g, o, rfl, hg, hx⟩ := H (by simp)
  simp only [List.length_cons] at hc ⊢
  refine ⟨g, o, c, rfl, hc, hm, hg, ?_, fun h1 => ?_, fun h1 => List.eq_nil_of_length_eq_zero (by omega)⟩
  · have := (hx 0 x rfl).tm
    simpa using this
  · refine ⟨_, c - 1, rfl, by omega, by omega, fun h => (by cases h), fun _ => ⟨g, o + 11, rfl, hg, fun k y hk => ?_⟩⟩
    have := hx (k + 1) y (by simpa using hk)
    rwa [show o + (k + 1) * 11 = o + 11 + k * 11 by omega] at this
structure EnF (w0 : World) (b : Nat) (w : World) : Prop where
  pow : PowTab w0
  wds : Wds w0
  sgs : Sgs w0
  lo : w0.heap.size ≤ b
  bl : Below w0.heap.size w0 w
theorem EnF.pk {w0 : World} {b : Nat} {w w' : World} (h : EnF w0 b w) (hk : Pk b w w') : EnF w0 b w' := ⟨h.pow, h.wds, h.sgs, h.lo, h.bl.trans (hk.1.mono h.lo)⟩
def FlP (b : Nat) (L : List UInt8) (r : List Tm) (T : List UInt8) (w : World) (e : Ending) (w' : World) : Prop :=
  ∃ v', e = .returned v' ∧ TmB b w' v' r ∧ EmbF b (L ++ T) w' ∧ Pk b w w'
def partT (of_ : Int) (k : Tr Tm) : List UInt8 := if brk of_ k.nd.op then 40 :: (txF k ++ [41]) else txF k
def FilterP (t : Tr Tm) : Prop :=
  ∀ (b : Nat) (L : List UInt8) (r : List Tm) (v : Value) (w0 w : World), EnF w0 b w → EmbF b L w → TmB b w v (flat t ++ r) → (L ++ txF t).length ≤ 100000000 →
    Calls Tryz.prog 34 #[.pointer (some ⟨b, 0, none⟩), v] w (FlP b L r (txF t) w)
def PartP (of_ : Int) (k : Tr Tm) : Prop :=
  ∀ (b : Nat) (L : List UInt8) (r : List Tm) (v : Value) (w0 w : World), EnF w0 b w → EmbF b L w → TmB b w v (flat k ++ r) → (L ++ partT of_ k).length ≤ 100000000 →
    Calls Tryz.prog 65 #[.pointer (some ⟨b, 0, none⟩), .int .i64 of_, v] w (FlP b L r (partT of_ k) w)
structure FitP (t : Tm) : Prop where
  o0 : 0 ≤ t.op
  o19 : t.op ≤ 19
  s : t.s.length ≤ 1000000
  nm : t.name.length ≤ 1000000
  n0 : -9223372036854775808 ≤ t.n
  n1 : t.n ≤ 9223372036854775807
  c : t.op = 16 → FitK t.c ∧ 0 ≤ t.n ∧ t.n ≤ 5
set_option maxRecDepth 100000 in
set_option maxHeartbeats 2000000 in
theorem part_of (of_ : Int) (k : Tr Tm) (hF : FilterP k) : PartP of_ k := by
  intro b L r v w0 w hen hem hnd hlen
  have hnd0 := hnd
  rw [flat_eq, List.cons_append] at hnd
  obtain ⟨g, o, c, rfl, hc1, hcm, hgb, hn11, -, -⟩ := hnd.cons
  obtain ⟨a0, -, -, -, -, -, -, -, -, -, -⟩ := hn11
  have HB := Lib.hid (fun W => brk_any of_ k.nd.op W)
  have HEM := Lib.hid hem
  generalize hl : (flats k.ks ++ r).length = N at *
  unfold partT at hlen ⊢
  cases hbr : brk of_ k.nd.op
  · rw [hbr] at HB hlen
    have HFF := Lib.hid (hF b L r _ w0 w hen hem hnd0 (by simpa using hlen))
    simp only [Bool.false_eq_true, if_false]
    clear hen hem hnd hnd0 hl
    go_enter Tryz.func65, Tryz.ntmps65
    go_wp2_with (first
      | (go_at_call 99; refine (HB.out _).mono ?_; rintro e w1 ⟨rfl, rfl⟩)
      | (go_at_call 34; refine HFF.out.mono ?_; rintro e w2 ⟨v', rfl, hx2, h2, hk2⟩; obtain ⟨A2, N2, c2, rfl⟩ : ∃ (A : Option Addr) (N c : Nat), v' = .slice A N c := (by obtain ⟨A, c, h, -⟩ := hx2; exact ⟨A, _, c, h⟩)))
    go_ret
    exact ⟨_, rfl, hx2, by simpa using h2, hk2⟩
  · rw [hbr] at HB hlen
    simp only [if_true] at hlen ⊢
    have hlen2 : L.length + (txF k).length + 2 ≤ 100000000 := by simp at hlen; omega
    have HW1 := Lib.hid (fembByte b L 40 w hem (by omega))
    have HFF : Hid (∀ W, Pk b w W → EmbF b (L ++ [40]) W → Calls Tryz.prog 34 #[.pointer (some ⟨b, 0, none⟩), .slice (some ⟨g, o, none⟩) (N + 1) c] W (FlP b (L ++ [40]) r (txF k) W)) := Lib.hid (fun W hk h => hF b (L ++ [40]) r _ w0 W (hen.pk hk) h (hnd0.below hk.1) (by simp; omega))
    have HW2 : Hid (∀ W, EmbF b (L ++ [40] ++ txF k) W → Calls Tryz.prog 100 #[.pointer (some ⟨b, 0, none⟩), .int .u8 41] W fun e w' => e = .returned .nilIface ∧ EmbF b (L ++ [40] ++ txF k ++ [41]) w' ∧ Pk b W w') := Lib.hid (fun W h => fembByte b _ 41 W h (by simp; omega))
    clear hen hem hnd hnd0 hl hlen
    go_enter Tryz.func65, Tryz.ntmps65
    go_wp2_with (first
      | (go_at_call 99; refine (HB.out _).mono ?_; rintro e w1 ⟨rfl, rfl⟩)
      | (go_at_call_of 100 (40 : Int); refine HW1.out.mono ?_; rintro e w2 ⟨rfl, h2, hk2⟩; have HE2 := Lib.hid h2; have HK2 := Lib.hid hk2; clear h2 hk2)
      | (go_at_call 34; refine (HFF.out _ HK2.out HE2.out).mono ?_; rintro e w3 ⟨v', rfl, hx3, h3, hk3⟩; obtain ⟨A3, N3, c3, rfl⟩ : ∃ (A : Option Addr) (N c : Nat), v' = .slice A N c := (by obtain ⟨A, c, h, -⟩ := hx3; exact ⟨A, _, c, h⟩); have HE3 := Lib.hid h3; have HK3 := Lib.hid hk3; have HX3 := Lib.hid hx3; clear h3 hk3 hx3)
      | (go_at_call_of 100 (41 : Int); refine (HW2.out _ HE3.out).mono ?_; rintro e w4 ⟨rfl, h4, hk4⟩))
    go_ret
    exact ⟨_, rfl, HX3.out.below hk4.1, by simpa using h4, (HK2.out.trans HK3.out).trans hk4⟩
set_option maxRecDepth 100000 in
set_option maxHeartbeats 4000000 in
theorem filter_of (t : Tm) (ks : List (Tr Tm)) (hF : FitP t) (hm : t.many = ks.length) (hP : ∀ k ∈ ks, PartP t.op k) (hnm : ∀ k ∈ ks, k.nd.name.length ≤ 1000000) : FilterP (.mk t ks) := by
  intro b L r v w0 w hen hem hnd hlen
  rw [flat_mk, List.cons_append] at hnd
  obtain ⟨g, o, c, rfl, hc1, hcm, hgb, hn11, htl, hone⟩ := hnd.cons
  obtain ⟨a0, a1, a2, a3, a4, a5, a6, a7, a8, a9, a10⟩ := hn11
  have hbl := hem.lt
  have HEN := Lib.hid hen
  have HEM := Lib.hid hem
  have HTL := Lib.hid htl
  have HONE := Lib.hid hone
  have HP := Lib.hid hP
  have HNM := Lib.hid hnm
  have HF := Lib.hid hF
  have HMM := Lib.hid hm
  clear hm
  generalize hl : (flats ks ++ r).length = N at *
  have HN := Lib.hid hl
  clear hen hem hnd htl hone hP hl hnm hF
  have hglt : g < w.heap.size := by omega
  have hgne : ¬ g = w.heap.size := by omega
  obtain ⟨X, hX, HXN⟩ : ∃ X : Value, X = (if c = 1 then .slice (some ⟨g, o, none⟩) 0 0 else .slice (some ⟨g, o + 11, none⟩) N (c - 1)) ∧ Hid (TmB b w X (flats ks ++ r)) := by
    refine ⟨_, rfl, Lib.hid ?_⟩
    split
    · rename_i h; rw [HONE.out h]; exact TmB.empty b w _
    · rename_i h
      exact HTL.out h
  have HXX := Lib.hid hX
  clear HTL HONE
  go_enter Tryz.func34, Tryz.ntmps34
  go_upto_region 3 with fail
  go_cut [5, 6] from 14 to 18 (fun p x wx => p = .pointer (some ⟨w.heap.size, 0, none⟩) ∧ x = X ∧ Below w.heap.size w wx ∧ wx.heap[w.heap.size]? = some (.cells #[.int .i64 t.op, .int .i64 t.many, .string ⟨t.name.toArray⟩, .string ⟨t.s.toArray⟩, .int .i64 t.n, .int .i64 t.c.kind, .int .i64 t.c.many, .string ⟨t.c.name.toArray⟩, .string ⟨t.c.s.toArray⟩, .bool t.c.neg, .int .i64 t.c.e] 47 (0, 0)))
  case first =>
    by_cases hc : c = 1
    · subst hc
      have hN0 : N = 0 := by omega
      subst hN0
      rw [if_pos rfl] at hX
      subst hX
      go_region
      all_goals go_wp2_with fail
      all_goals go_meet
      all_goals exact ⟨rfl, rfl, ((Below.refl _ w).alloc (Nat.le_refl _) _).drew, heap_alloc_new w _⟩
    · rw [if_neg hc] at hX
      subst hX
      have z1 : (0 : Int) ≤ (N : Int) := by omega
      have z2 : (1 : Int) ≤ (N : Int) + 1 := by omega
      have z3 : 1 ≤ c := by omega
      have z4 : ¬ (1 = c) := by omega
      go_region
      all_goals go_wp2_with fail
      all_goals go_meet
      all_goals exact ⟨rfl, rfl, ((Below.refl _ w).alloc (Nat.le_refl _) _).drew, heap_alloc_new w _⟩
  case rest =>
    obtain ⟨rfl, he, hb1, hz1⟩ := hcut
    replace he := he.symm
    subst he
    clear hX
    have HB1 := Lib.hid hb1
    have HK1 : Hid (Pk b w wc) := Lib.hid (Pk.of hb1 (Nat.le_of_lt hbl))
    have HEM1 := Lib.hid (HEM.out.below hb1)
    have HEN1 := Lib.hid (HEN.out.pk HK1.out)
    have HX1 := Lib.hid (HXN.out.below (hb1.mono (Nat.le_of_lt hbl)))
    have HZ1 := Lib.hid hz1
    have hsz : w.heap.size < wc.heap.size := (Array.getElem?_eq_some_iff.1 hz1).1
    have HCL : Hid (∀ W, W.heap[w.heap.size]? = some (.cells #[.int .i64 t.op, .int .i64 t.many, .string ⟨t.name.toArray⟩, .string ⟨t.s.toArray⟩, .int .i64 t.n, .int .i64 t.c.kind, .int .i64 t.c.many, .string ⟨t.c.name.toArray⟩, .string ⟨t.c.s.toArray⟩, .bool t.c.neg, .int .i64 t.c.e] 47 (0, 0)) → Tm11 W w.heap.size 0 t) := Lib.hid (fun W h => by constructor <;> (rw [Lib.cell_of_heap h]; rfl))
    obtain ⟨p0, p1, p2, p3, p4, p5, p6, p7, p8, p9, p10⟩ := HCL.out _ hz1
    simp only [Nat.zero_add] at p1 p2 p3 p4 p5 p6 p7 p8 p9 p10
    have HMK := Lib.hid (marks_any t wc HF.out.o0 HF.out.o19 HF.out.s HF.out.n0 HF.out.n1 HF.out.c (HEN1.out.pow.below HEN1.out.bl) (HEN1.out.wds.below HEN1.out.bl) (HEN1.out.sgs.below HEN1.out.bl))
    have HTX : Hid (txF (.mk t ks) = aheadT t ++ (txK t.op true ks ++ behindT t.op)) := Lib.hid (txF_mk t ks)
    unfold MkE at HMK
    rw [txF_mk] at hlen
    have hlens : L.length + (aheadT t).length + (txK t.op true ks).length + (behindT t.op).length ≤ 100000000 := by simp at hlen; omega
    have HA : Hid (∀ W, EmbF b L W → Calls Tryz.prog 63 #[.pointer (some ⟨b, 0, none⟩), .string ⟨(aheadT t).toArray⟩] W fun e w' => e = .returned (.tuple #[.int .i64 (ByteArray.mk (aheadT t).toArray).size, .nilIface]) ∧ EmbF b (L ++ aheadT t) w' ∧ Pk b W w') := Lib.hid (fun W h => fembString b L ⟨(aheadT t).toArray⟩ W h (by rw [mk_size]; omega))
    clear hb1 hz1 hlen a0 a1 a2 a3 a4 a5 a6 a7 a8 a9 a10
    generalize txF (.mk t ks) = TX at *
    go_wp2_with (first
      | (go_at_call 62; refine HMK.out.mono ?_; rintro e w2 ⟨rfl, hb2⟩; have HEM2 := Lib.hid (HEM1.out.below hb2); have HK2 : Hid (Pk b w w2) := Lib.hid (HK1.out.trans (Pk.of hb2 (Nat.le_of_lt HEM1.out.lt))); have hz2 := (hb2.block _ hsz).trans HZ1.out; have HX2 := Lib.hid (HX1.out.below (hb2.mono (Nat.le_of_lt HEM1.out.lt))); have HZ2 := Lib.hid hz2; clear hb2 hz2)
      | (go_at_call 63; refine (HA.out _ HEM2.out).mono ?_; rintro e w3 ⟨rfl, h3, hk3⟩; have HEM3 := Lib.hid h3; have HK3 := Lib.hid (HK2.out.trans hk3); have HZ3 : Hid (w3.heap[w.heap.size]? = some (.cells #[.int .i64 t.op, .int .i64 t.many, .string ⟨t.name.toArray⟩, .string ⟨t.s.toArray⟩, .int .i64 t.n, .int .i64 t.c.kind, .int .i64 t.c.many, .string ⟨t.c.name.toArray⟩, .string ⟨t.c.s.toArray⟩, .bool t.c.neg, .int .i64 t.c.e] 47 (0, 0))) := Lib.hid (hk3.other HZ2.out (by omega) (by decide)); have HX3 := Lib.hid (HX2.out.below hk3.1); clear h3 hk3))
    have HB0 : Hid (∀ W, EmbF b (L ++ aheadT t ++ txK t.op true ks) W → Calls Tryz.prog 63 #[.pointer (some ⟨b, 0, none⟩), .string ⟨(behindT t.op).toArray⟩] W fun e w' => e = .returned (.tuple #[.int .i64 (ByteArray.mk (behindT t.op).toArray).size, .nilIface]) ∧ EmbF b (L ++ aheadT t ++ txK t.op true ks ++ behindT t.op) w' ∧ Pk b W w') := Lib.hid (fun W h => fembString b _ ⟨(behindT t.op).toArray⟩ W h (by rw [mk_size]; simp; omega))
    have hkl : ks.length ≤ maxLen := by have h1 := flats_len ks; have h2 := HN.out; rw [List.length_append] at h2; omega
    unfold maxLen at hkl
    go_loopw [6, 10] (fun rv iv wr => ∃ (j : Nat) (A : Option Addr) (n2 c2 : Nat) (P : List UInt8), j ≤ ks.length ∧ iv = .int .i64 j ∧ rv = .slice A n2 c2 ∧ Hid (TmB b wr (.slice A n2 c2) (flats (ks.drop j) ++ r)) ∧ Hid (EmbF b P wr) ∧ Hid (P ++ txK t.op (j == 0) (ks.drop j) = L ++ aheadT t ++ txK t.op true ks) ∧ Hid (Pk b w wr) ∧ Hid (wr.heap[w.heap.size]? = some (.cells #[.int .i64 t.op, .int .i64 t.many, .string ⟨t.name.toArray⟩, .string ⟨t.s.toArray⟩, .int .i64 t.n, .int .i64 t.c.kind, .int .i64 t.c.many, .string ⟨t.c.name.toArray⟩, .string ⟨t.c.s.toArray⟩, .bool t.c.neg, .int .i64 t.c.e] 47 (0, 0)))) (fun _ iv _ => ks.length - (intOf iv).toNat)
    case atStart =>
      obtain ⟨A, c2, hv, -⟩ := HX3.out
      exact ⟨0, A, _, c2, L ++ aheadT t, Nat.zero_le _, rfl, hv, by rw [← hv]; simpa using HX3, HEM3, Lib.hid (by simp), HK3, HZ3⟩
    case round =>
      obtain ⟨j, A, n2, c2, P, hj, rfl, rfl, HX, HE, HP2, HK, HZ⟩ := hrel
      obtain ⟨p0, p1, p2, p3, p4, p5, p6, p7, p8, p9, p10⟩ := HCL.out _ HZ.out
      simp only [Nat.zero_add] at p1 p2 p3 p4 p5 p6 p7 p8 p9 p10
      rw [HMM.out] at p1
      by_cases hjk : j < ks.length
      · obtain ⟨u, hu⟩ : ∃ u, ks[j]? = some u := ⟨_, List.getElem?_eq_getElem hjk⟩
        have hdr : ks.drop j = u :: ks.drop (j + 1) := by
          obtain ⟨h1, h2⟩ := List.getElem?_eq_some_iff.1 hu
          rw [← h2, List.getElem_cons_drop]
        have hmem : u ∈ ks := List.mem_of_getElem? hu
        rw [hdr] at HX HP2
        rw [flats_cons, List.append_assoc] at HX
        rw [txK_cons] at HP2
        have hx0 := HX.out
        rw [flat_eq u, List.cons_append] at hx0
        obtain ⟨g2, o2, c3, hv2, hc3, hcm3, hg2, hn2, -, -⟩ := hx0.cons
        injection hv2 with e1 e2 e3
        subst e1 e2 e3
        obtain ⟨-, -, u2, -, -, -, -, -, -, -, -⟩ := hn2
        have hpl : P.length + (preT t.op (j == 0) u.nd.name).length + (partT t.op u).length ≤ 100000000 := by
          have h1 := congrArg List.length HP2.out
          unfold partT
          simp only [List.length_append] at h1
          omega
        have HPP : Hid (∀ W, Pk b w W → EmbF b (P ++ preT t.op (j == 0) u.nd.name) W → TmB b W (.slice (some ⟨g2, o2, none⟩) ((flats u.ks ++ (flats (ks.drop (j + 1)) ++ r)).length + 1) c2) (flat u ++ (flats (ks.drop (j + 1)) ++ r)) → Calls Tryz.prog 65 #[.pointer (some ⟨b, 0, none⟩), .int .i64 t.op, .slice (some ⟨g2, o2, none⟩) ((flats u.ks ++ (flats (ks.drop (j + 1)) ++ r)).length + 1) c2] W (FlP b (P ++ preT t.op (j == 0) u.nd.name) (flats (ks.drop (j + 1)) ++ r) (partT t.op u) W)) := Lib.hid (fun W hk hE hX => HP.out u hmem b _ _ _ w0 W (HEN.out.pk hk) hE hX (by simp; omega))
        have HNMu := Lib.hid (HNM.out u hmem)
        have HXX2 : Hid (TmB b wr (.slice (some ⟨g2, o2, none⟩) ((flats u.ks ++ (flats (ks.drop (j + 1)) ++ r)).length + 1) c2) (flat u ++ (flats (ks.drop (j + 1)) ++ r))) := HX
        have HT2 : Hid (P ++ preT t.op (j == 0) u.nd.name ++ partT t.op u ++ txK t.op (j + 1 == 0) (ks.drop (j + 1)) = L ++ aheadT t ++ txK t.op true ks) := Lib.hid (by rw [← HP2.out]; unfold partT; simp)
        have hbt : (betweenT t.op).length ≤ 10 := by
          unfold betweenT
          repeat' split
          all_goals simp
        have hbne : P.length ≤ 100000000 := by omega
        have hMN : (0 : Int) < (((flats u.ks ++ (flats (ks.drop (j + 1)) ++ r)).length : Nat) : Int) + 1 := by omega
        generalize (flats u.ks ++ (flats (ks.drop (j + 1)) ++ r)).length = M at *
        clear hu hdr hmem HX HP2 hx0
        clear hlens HTX HB0
        by_cases h8 : t.op = 8
        · have e8 : (t.op == 8) = true := by simp [h8]
          have HNT := Lib.hid (fun (W : World) (h : PowTab W) => nameText_any u.nd.name W HNMu.out h)
          have hnl : (nameT u.nd.name).length ≤ 7000000 := by have := fieldT_len u.nd.name; have := HNMu.out; unfold nameT; simp; omega
          by_cases hj0 : j = 0
          · have hpre : preT t.op (j == 0) u.nd.name = nameT u.nd.name ++ [58, 32] := by unfold preT; rw [if_pos h8]; simp [hj0]
            rw [hpre] at HPP HT2
            have HX := HXX2
            have HG2 := Lib.hid hg2
            subst hj0
            clear hpre h8
            go_wp2_with fail
            have HWS : Hid (∀ W, EmbF b (P) W → Calls Tryz.prog 63 #[.pointer (some ⟨b, 0, none⟩), .string ((ByteArray.mk (nameT u.nd.name).toArray) ++ (ByteArray.mk #[58, 32]))] W fun e w' => e = .returned (.tuple #[.int .i64 ((ByteArray.mk (nameT u.nd.name).toArray) ++ (ByteArray.mk #[58, 32])).size, .nilIface]) ∧ EmbF b (P ++ (nameT u.nd.name ++ [58, 32])) w' ∧ Pk b W w') := Lib.hid (fun W h => by
              have := fembString b (P) ((ByteArray.mk (nameT u.nd.name).toArray) ++ (ByteArray.mk #[58, 32])) W h (by rw [ByteArray.size_append]; show (P).length + ((nameT u.nd.name).length + 2) ≤ _; omega)
              simpa using this)
            have HPd : Hid (PowTab wr.drew) := Lib.hid ((HEN.out.pk HK.out.drew).pow.below (HEN.out.pk HK.out.drew).bl)
            have HNTd := Lib.hid (HNT.out _ HPd.out)
            generalize nameT u.nd.name = nt at *
            refine wp_region_held_drew (S := fun W => W.cell? ⟨g2, o2 + 2, none⟩ = some (.string ⟨u.nd.name.toArray⟩)) (by kernel_rfl) ((show (wr).drew.cell? ⟨g2, o2 + 2, none⟩ = some (.string ⟨u.nd.name.toArray⟩) from u2)) (fun hH => ?_)
            refine wpAnyH_take (i := 0) (v := .pointer (some ⟨b, 0, none⟩)) rfl (by kernel_rfl) (by kernel_rfl) (by kernel_rfl) (fun _ _ _ h => h) (Or.inl ⟨by kernel_rfl, ?_⟩) (by assumption) ?_
            · intro w' hSw; (try dsimp only at hSw); go_simp
            try simp only [Act.put, List.getElem_toArray, List.getElem_cons_zero, List.setIfInBounds_toArray, List.set_cons_zero, List.set_cons_succ]
            refine wpAnyH_take (i := 1) (v := .pointer (some ⟨b, 0, none⟩)) rfl (by kernel_rfl) (by kernel_rfl) (by kernel_rfl) (fun _ _ _ h => h) (Or.inl ⟨by kernel_rfl, ?_⟩) (by assumption) ?_
            · intro w' hSw; (try dsimp only at hSw); go_simp
            try simp only [Act.put, List.getElem_toArray, List.getElem_cons_succ, List.getElem_cons_zero, List.setIfInBounds_toArray, List.set_cons_zero, List.set_cons_succ]
            refine wpAnyH_take (i := 2) (v := .pointer (some ⟨b, 0, none⟩)) rfl (by kernel_rfl) (by kernel_rfl) (by kernel_rfl) (fun _ _ _ h => h) (Or.inl ⟨by kernel_rfl, ?_⟩) (by assumption) ?_
            · intro w' hSw; (try dsimp only at hSw); go_simp
            try simp only [Act.put, List.getElem_toArray, List.getElem_cons_succ, List.getElem_cons_zero, List.setIfInBounds_toArray, List.set_cons_zero, List.set_cons_succ]
            refine wpAnyH_take (i := 3) (v := .slice (some ⟨g2, o2, none⟩) ((M : Nat) + 1) c2) rfl (by kernel_rfl) (by kernel_rfl) (by kernel_rfl) (fun _ _ _ h => h) (Or.inl ⟨by kernel_rfl, ?_⟩) (by assumption) ?_
            · intro w' hSw; (try dsimp only at hSw); go_simp
            try simp only [Act.put, List.getElem_toArray, List.getElem_cons_succ, List.getElem_cons_zero, List.setIfInBounds_toArray, List.set_cons_zero, List.set_cons_succ]
            refine wpAnyH_take (i := 4) (v := .pointer (some ⟨g2, o2, none⟩)) rfl (by kernel_rfl) (by kernel_rfl) (by kernel_rfl) (fun _ _ _ h => h) (Or.inl ⟨by kernel_rfl, ?_⟩) (by assumption) ?_
            · intro w' hSw; (try dsimp only at hSw); go_simp
            try simp only [Act.put, List.getElem_toArray, List.getElem_cons_succ, List.getElem_cons_zero, List.setIfInBounds_toArray, List.set_cons_zero, List.set_cons_succ]
            refine wpAnyH_take (i := 5) (v := .pointer (some ⟨g2, o2 + 2, none⟩)) rfl (by kernel_rfl) (by kernel_rfl) (by kernel_rfl) (fun _ _ _ h => h) (Or.inl ⟨by kernel_rfl, ?_⟩) (by assumption) ?_
            · intro w' hSw; (try dsimp only at hSw); go_simp
            try simp only [Act.put, List.getElem_toArray, List.getElem_cons_succ, List.getElem_cons_zero, List.setIfInBounds_toArray, List.set_cons_zero, List.set_cons_succ]
            refine wpAnyH_take (i := 6) (v := .string ⟨u.nd.name.toArray⟩) rfl (by kernel_rfl) (by kernel_rfl) (by kernel_rfl) (fun _ _ _ h => h) (Or.inl ⟨by kernel_rfl, ?_⟩) (by assumption) ?_
            · intro w' hSw; (try dsimp only at hSw); go_simp
            try simp only [Act.put, List.getElem_toArray, List.getElem_cons_succ, List.getElem_cons_zero, List.setIfInBounds_toArray, List.set_cons_zero, List.set_cons_succ]
            refine wpAnyH_ready (rs := [7]) (by kernel_rfl) (by simp) ?_
            refine AllReadyH.cons rfl (fun K7 hK7 => ?_) AllReadyH.nil
            go_simp
            go_at_call 64
            refine HNTd.out.mono ?_
            rintro e w6 ⟨rfl, hb6⟩
            have HE6 := Lib.hid (EmbF.below (EmbF.drew HE.out) hb6)
            have HK6 := Lib.hid (HK.out.drew.trans (Pk.of hb6 (Nat.le_of_lt (EmbF.lt HE.out))))
            have HZ6 := Lib.hid ((hb6.block _ (Array.getElem?_eq_some_iff.1 HZ.out).1).trans HZ.out)
            have HX6 := Lib.hid (HX.out.below ((Below.refl b wr).drew.trans (hb6.mono (Nat.le_of_lt (EmbF.lt HE.out)))))
            have HC6 := Lib.hid ((hb6.mono (Nat.le_of_lt (EmbF.lt HE.out))).cell (p := ⟨g2, o2 + 2, none⟩) HG2.out |>.trans hH)
            clear hb6
            go_wp2_with fail
            refine hK7.out _ _ (HC6.out) (fun hHeld7 => ?_)
            clear hK7 K7
            try simp only [Act.put, List.getElem_toArray, List.getElem_cons_succ, List.getElem_cons_zero, List.setIfInBounds_toArray, List.set_cons_zero, List.set_cons_succ]
            refine wpAnyH_take (i := 8) (v := .string ((ByteArray.mk nt.toArray) ++ (ByteArray.mk #[58, 32]))) rfl (by kernel_rfl) (by kernel_rfl) (by kernel_rfl) (fun _ _ _ h => h) (Or.inl ⟨by kernel_rfl, ?_⟩) (by assumption) ?_
            · intro w' hSw; (try dsimp only at hSw); go_simp; omega
            try simp only [Act.put, List.getElem_toArray, List.getElem_cons_succ, List.getElem_cons_zero, List.setIfInBounds_toArray, List.set_cons_zero, List.set_cons_succ]
            refine wpAnyH_ready (rs := [9]) (by kernel_rfl) (by simp) ?_
            refine AllReadyH.cons rfl (fun K9 hK9 => ?_) AllReadyH.nil
            go_simp
            go_at_call 63
            refine (HWS.out _ HE6.out).mono ?_
            rintro e w7 ⟨rfl, h7, hk7⟩
            go_wp2_with fail
            refine hK9.out _ _ ((hk7.1.cell (p := ⟨g2, o2 + 2, none⟩) HG2.out).trans HC6.out) (fun hHeld9 => ?_)
            clear hK9 K9
            try simp only [Act.put, List.getElem_toArray, List.getElem_cons_succ, List.getElem_cons_zero, List.setIfInBounds_toArray, List.set_cons_zero, List.set_cons_succ]
            refine wpAnyH_done (by kernel_rfl) ?_ _
            have HE7 := Lib.hid h7
            have HK7 := Lib.hid (HK6.out.trans hk7)
            have HX7 := Lib.hid (HX6.out.below hk7.1)
            have HZ7 := Lib.hid (hk7.other HZ6.out (by omega) (by decide))
            have u27 := (hk7.1.cell (p := ⟨g2, o2 + 2, none⟩) HG2.out).trans HC6.out
            clear h7 hk7
            obtain ⟨q0, q1, q2, q3, q4, q5, q6, q7, q8, q9, q10⟩ := HCL.out _ HZ7.out
            simp only [Nat.zero_add] at q1 q2 q3 q4 q5 q6 q7 q8 q9 q10
            rw [HMM.out] at q1
            go_wp2_with (go_at_call 65; refine (HPP.out _ HK7.out HE7.out HX7.out).mono ?_; rintro e w5 ⟨v', rfl, hx5, h5, hk5⟩; obtain ⟨A5, N5, c5, rfl⟩ : ∃ (A : Option Addr) (N c : Nat), v' = .slice A N c := (by obtain ⟨A, c, h, -⟩ := hx5; exact ⟨A, _, c, h⟩); have HX5 := Lib.hid hx5; have HE5 := Lib.hid h5; have HK5 := Lib.hid (HK7.out.trans hk5); have HZ5 := Lib.hid (hk5.other HZ7.out (by omega) (by decide)); clear hx5 h5 hk5)
            go_roundw
            case rel => exact ⟨0 + 1, A5, N5, c5, _, by omega, by go_num, rfl, HX5, HE5, HT2, HK5, HZ5⟩
            case measure => simp [intOf]; omega
          · have hpre : preT t.op (j == 0) u.nd.name = betweenT t.op ++ (nameT u.nd.name ++ [58, 32]) := by unfold preT; rw [if_pos h8]; simp [hj0]
            rw [hpre, ← List.append_assoc] at HPP HT2
            clear hpre h8
            have HBW : Hid (∀ W, EmbF b P W → Calls Tryz.prog 63 #[.pointer (some ⟨b, 0, none⟩), .string ⟨(betweenT t.op).toArray⟩] W fun e w' => e = .returned (.tuple #[.int .i64 (ByteArray.mk (betweenT t.op).toArray).size, .nilIface]) ∧ EmbF b (P ++ betweenT t.op) w' ∧ Pk b W w') := Lib.hid (fun W h => fembString b P ⟨(betweenT t.op).toArray⟩ W h (by rw [mk_size]; omega))
            have HG2 := Lib.hid hg2
            have hj1 : (0 : Int) < (j : Int) := by omega
            go_wp2_with (go_at_call 63; refine (HBW.out _ HE.out).mono ?_; rintro e w4 ⟨rfl, h4, hk4⟩; have HE4 := Lib.hid h4; have HK4 := Lib.hid (HK.out.trans hk4); have hz4 := hk4.other HZ.out (by omega) (by decide); have HZ4 := Lib.hid hz4; obtain ⟨q0, q1, q2, q3, q4, q5, q6, q7, q8, q9, q10⟩ := HCL.out _ hz4; simp only [Nat.zero_add] at q1 q2 q3 q4 q5 q6 q7 q8 q9 q10; rw [HMM.out] at q1; have u2' := (hk4.1.cell (p := ⟨g2, o2 + 2, none⟩) HG2.out).trans u2; have HX4 := Lib.hid (HXX2.out.below hk4.1); clear h4 hk4 hz4)
            have HWS : Hid (∀ W, EmbF b (P ++ betweenT t.op) W → Calls Tryz.prog 63 #[.pointer (some ⟨b, 0, none⟩), .string ((ByteArray.mk (nameT u.nd.name).toArray) ++ (ByteArray.mk #[58, 32]))] W fun e w' => e = .returned (.tuple #[.int .i64 ((ByteArray.mk (nameT u.nd.name).toArray) ++ (ByteArray.mk #[58, 32])).size, .nilIface]) ∧ EmbF b (P ++ betweenT t.op ++ (nameT u.nd.name ++ [58, 32])) w' ∧ Pk b W w') := Lib.hid (fun W h => by
              have := fembString b (P ++ betweenT t.op) ((ByteArray.mk (nameT u.nd.name).toArray) ++ (ByteArray.mk #[58, 32])) W h (by rw [ByteArray.size_append]; show (P ++ betweenT t.op).length + ((nameT u.nd.name).length + 2) ≤ _; simp only [List.length_append]; omega)
              simpa using this)
            have HPd : Hid (PowTab w4.drew) := Lib.hid ((HEN.out.pk HK4.out.drew).pow.below (HEN.out.pk HK4.out.drew).bl)
            have HNTd := Lib.hid (HNT.out _ HPd.out)
            generalize nameT u.nd.name = nt at *
            refine wp_region_held_drew (S := fun W => W.cell? ⟨g2, o2 + 2, none⟩ = some (.string ⟨u.nd.name.toArray⟩)) (by kernel_rfl) ((show (w4).drew.cell? ⟨g2, o2 + 2, none⟩ = some (.string ⟨u.nd.name.toArray⟩) from u2')) (fun hH => ?_)
            refine wpAnyH_take (i := 0) (v := .pointer (some ⟨b, 0, none⟩)) rfl (by kernel_rfl) (by kernel_rfl) (by kernel_rfl) (fun _ _ _ h => h) (Or.inl ⟨by kernel_rfl, ?_⟩) (by assumption) ?_
            · intro w' hSw; (try dsimp only at hSw); go_simp
            try simp only [Act.put, List.getElem_toArray, List.getElem_cons_zero, List.setIfInBounds_toArray, List.set_cons_zero, List.set_cons_succ]
            refine wpAnyH_take (i := 1) (v := .pointer (some ⟨b, 0, none⟩)) rfl (by kernel_rfl) (by kernel_rfl) (by kernel_rfl) (fun _ _ _ h => h) (Or.inl ⟨by kernel_rfl, ?_⟩) (by assumption) ?_
            · intro w' hSw; (try dsimp only at hSw); go_simp
            try simp only [Act.put, List.getElem_toArray, List.getElem_cons_succ, List.getElem_cons_zero, List.setIfInBounds_toArray, List.set_cons_zero, List.set_cons_succ]
            refine wpAnyH_take (i := 2) (v := .pointer (some ⟨b, 0, none⟩)) rfl (by kernel_rfl) (by kernel_rfl) (by kernel_rfl) (fun _ _ _ h => h) (Or.inl ⟨by kernel_rfl, ?_⟩) (by assumption) ?_
            · intro w' hSw; (try dsimp only at hSw); go_simp
            try simp only [Act.put, List.getElem_toArray, List.getElem_cons_succ, List.getElem_cons_zero, List.setIfInBounds_toArray, List.set_cons_zero, List.set_cons_succ]
            refine wpAnyH_take (i := 3) (v := .slice (some ⟨g2, o2, none⟩) ((M : Nat) + 1) c2) rfl (by kernel_rfl) (by kernel_rfl) (by kernel_rfl) (fun _ _ _ h => h) (Or.inl ⟨by kernel_rfl, ?_⟩) (by assumption) ?_
            · intro w' hSw; (try dsimp only at hSw); go_simp
            try simp only [Act.put, List.getElem_toArray, List.getElem_cons_succ, List.getElem_cons_zero, List.setIfInBounds_toArray, List.set_cons_zero, List.set_cons_succ]
            refine wpAnyH_take (i := 4) (v := .pointer (some ⟨g2, o2, none⟩)) rfl (by kernel_rfl) (by kernel_rfl) (by kernel_rfl) (fun _ _ _ h => h) (Or.inl ⟨by kernel_rfl, ?_⟩) (by assumption) ?_
            · intro w' hSw; (try dsimp only at hSw); go_simp
            try simp only [Act.put, List.getElem_toArray, List.getElem_cons_succ, List.getElem_cons_zero, List.setIfInBounds_toArray, List.set_cons_zero, List.set_cons_succ]
            refine wpAnyH_take (i := 5) (v := .pointer (some ⟨g2, o2 + 2, none⟩)) rfl (by kernel_rfl) (by kernel_rfl) (by kernel_rfl) (fun _ _ _ h => h) (Or.inl ⟨by kernel_rfl, ?_⟩) (by assumption) ?_
            · intro w' hSw; (try dsimp only at hSw); go_simp
            try simp only [Act.put, List.getElem_toArray, List.getElem_cons_succ, List.getElem_cons_zero, List.setIfInBounds_toArray, List.set_cons_zero, List.set_cons_succ]
            refine wpAnyH_take (i := 6) (v := .string ⟨u.nd.name.toArray⟩) rfl (by kernel_rfl) (by kernel_rfl) (by kernel_rfl) (fun _ _ _ h => h) (Or.inl ⟨by kernel_rfl, ?_⟩) (by assumption) ?_
            · intro w' hSw; (try dsimp only at hSw); go_simp
            try simp only [Act.put, List.getElem_toArray, List.getElem_cons_succ, List.getElem_cons_zero, List.setIfInBounds_toArray, List.set_cons_zero, List.set_cons_succ]
            refine wpAnyH_ready (rs := [7]) (by kernel_rfl) (by simp) ?_
            refine AllReadyH.cons rfl (fun K7 hK7 => ?_) AllReadyH.nil
            go_simp
            go_at_call 64
            refine HNTd.out.mono ?_
            rintro e w6 ⟨rfl, hb6⟩
            have HE6 := Lib.hid (EmbF.below (EmbF.drew HE4.out) hb6)
            have HK6 := Lib.hid (HK4.out.drew.trans (Pk.of hb6 (Nat.le_of_lt (EmbF.lt HE4.out))))
            have HZ6 := Lib.hid ((hb6.block _ (Array.getElem?_eq_some_iff.1 HZ4.out).1).trans HZ4.out)
            have HX6 := Lib.hid (HX4.out.below ((Below.refl b w4).drew.trans (hb6.mono (Nat.le_of_lt (EmbF.lt HE4.out)))))
            have HC6 := Lib.hid ((hb6.mono (Nat.le_of_lt (EmbF.lt HE4.out))).cell (p := ⟨g2, o2 + 2, none⟩) HG2.out |>.trans hH)
            clear hb6
            go_wp2_with fail
            refine hK7.out _ _ (HC6.out) (fun hHeld7 => ?_)
            clear hK7 K7
            try simp only [Act.put, List.getElem_toArray, List.getElem_cons_succ, List.getElem_cons_zero, List.setIfInBounds_toArray, List.set_cons_zero, List.set_cons_succ]
            refine wpAnyH_take (i := 8) (v := .string ((ByteArray.mk nt.toArray) ++ (ByteArray.mk #[58, 32]))) rfl (by kernel_rfl) (by kernel_rfl) (by kernel_rfl) (fun _ _ _ h => h) (Or.inl ⟨by kernel_rfl, ?_⟩) (by assumption) ?_
            · intro w' hSw; (try dsimp only at hSw); go_simp; omega
            try simp only [Act.put, List.getElem_toArray, List.getElem_cons_succ, List.getElem_cons_zero, List.setIfInBounds_toArray, List.set_cons_zero, List.set_cons_succ]
            refine wpAnyH_ready (rs := [9]) (by kernel_rfl) (by simp) ?_
            refine AllReadyH.cons rfl (fun K9 hK9 => ?_) AllReadyH.nil
            go_simp
            go_at_call 63
            refine (HWS.out _ HE6.out).mono ?_
            rintro e w7 ⟨rfl, h7, hk7⟩
            go_wp2_with fail
            refine hK9.out _ _ ((hk7.1.cell (p := ⟨g2, o2 + 2, none⟩) HG2.out).trans HC6.out) (fun hHeld9 => ?_)
            clear hK9 K9
            try simp only [Act.put, List.getElem_toArray, List.getElem_cons_succ, List.getElem_cons_zero, List.setIfInBounds_toArray, List.set_cons_zero, List.set_cons_succ]
            refine wpAnyH_done (by kernel_rfl) ?_ _
            have HE7 := Lib.hid h7
            have HK7 := Lib.hid (HK6.out.trans hk7)
            have HX7 := Lib.hid (HX6.out.below hk7.1)
            have HZ7 := Lib.hid (hk7.other HZ6.out (by omega) (by decide))
            have u27 := (hk7.1.cell (p := ⟨g2, o2 + 2, none⟩) HG2.out).trans HC6.out
            clear h7 hk7
            obtain ⟨q0, q1, q2, q3, q4, q5, q6, q7, q8, q9, q10⟩ := HCL.out _ HZ7.out
            simp only [Nat.zero_add] at q1 q2 q3 q4 q5 q6 q7 q8 q9 q10
            rw [HMM.out] at q1
            go_wp2_with (go_at_call 65; refine (HPP.out _ HK7.out HE7.out HX7.out).mono ?_; rintro e w5 ⟨v', rfl, hx5, h5, hk5⟩; obtain ⟨A5, N5, c5, rfl⟩ : ∃ (A : Option Addr) (N c : Nat), v' = .slice A N c := (by obtain ⟨A, c, h, -⟩ := hx5; exact ⟨A, _, c, h⟩); have HX5 := Lib.hid hx5; have HE5 := Lib.hid h5; have HK5 := Lib.hid (HK7.out.trans hk5); have HZ5 := Lib.hid (hk5.other HZ7.out (by omega) (by decide)); clear hx5 h5 hk5)
            go_roundw
            case rel => exact ⟨j + 1, A5, N5, c5, _, by omega, by go_num, rfl, HX5, HE5, HT2, HK5, HZ5⟩
            case measure => simp [intOf]; omega
        · have e8 : (t.op == 8) = false := by simp [h8]
          by_cases hj0 : j = 0
          · have hpre : preT t.op (j == 0) u.nd.name = [] := by unfold preT; rw [if_neg h8]; simp [hj0]
            rw [hpre, List.append_nil] at HPP HT2
            subst hj0
            go_wp2_with (go_at_call 65; refine (HPP.out _ HK.out HE.out HXX2.out).mono ?_; rintro e w5 ⟨v', rfl, hx5, h5, hk5⟩; obtain ⟨A5, N5, c5, rfl⟩ : ∃ (A : Option Addr) (N c : Nat), v' = .slice A N c := (by obtain ⟨A, c, h, -⟩ := hx5; exact ⟨A, _, c, h⟩); have HX5 := Lib.hid hx5; have HE5 := Lib.hid h5; have HK5 := Lib.hid (HK.out.trans hk5); have HZ5 := Lib.hid (hk5.other HZ.out (by omega) (by decide)); clear hx5 h5 hk5)
            go_roundw
            case rel => exact ⟨0 + 1, A5, N5, c5, _, by omega, by go_num, rfl, HX5, HE5, HT2, HK5, HZ5⟩
            case measure => simp [intOf]; omega
          · have hpre : preT t.op (j == 0) u.nd.name = betweenT t.op := by unfold preT; rw [if_neg h8]; simp [hj0]
            rw [hpre] at HPP HT2
            clear hpre
            have HBW : Hid (∀ W, EmbF b P W → Calls Tryz.prog 63 #[.pointer (some ⟨b, 0, none⟩), .string ⟨(betweenT t.op).toArray⟩] W fun e w' => e = .returned (.tuple #[.int .i64 (ByteArray.mk (betweenT t.op).toArray).size, .nilIface]) ∧ EmbF b (P ++ betweenT t.op) w' ∧ Pk b W w') := Lib.hid (fun W h => fembString b P ⟨(betweenT t.op).toArray⟩ W h (by rw [mk_size]; omega))
            have HG2 := Lib.hid hg2
            have hj1 : (0 : Int) < (j : Int) := by omega
            go_wp2_with (first
              | (go_at_call 63; refine (HBW.out _ HE.out).mono ?_; rintro e w4 ⟨rfl, h4, hk4⟩; have HE4 := Lib.hid h4; have HK4 := Lib.hid (HK.out.trans hk4); have hz4 := hk4.other HZ.out (by omega) (by decide); have HZ4 := Lib.hid hz4; obtain ⟨q0, q1, q2, q3, q4, q5, q6, q7, q8, q9, q10⟩ := HCL.out _ hz4; simp only [Nat.zero_add] at q1 q2 q3 q4 q5 q6 q7 q8 q9 q10; rw [HMM.out] at q1; have u2' := (hk4.1.cell (p := ⟨g2, o2 + 2, none⟩) HG2.out).trans u2; have HX4 := Lib.hid (HXX2.out.below hk4.1); clear h4 hk4 hz4)
              | (go_at_call 65; refine (HPP.out _ HK4.out HE4.out HX4.out).mono ?_; rintro e w5 ⟨v', rfl, hx5, h5, hk5⟩; obtain ⟨A5, N5, c5, rfl⟩ : ∃ (A : Option Addr) (N c : Nat), v' = .slice A N c := (by obtain ⟨A, c, h, -⟩ := hx5; exact ⟨A, _, c, h⟩); have HX5 := Lib.hid hx5; have HE5 := Lib.hid h5; have HK5 := Lib.hid (HK4.out.trans hk5); have HZ5 := Lib.hid (hk5.other HZ4.out (by omega) (by decide)); clear hx5 h5 hk5))
            go_roundw
            case rel => exact ⟨j + 1, A5, N5, c5, _, by omega, by go_num, rfl, HX5, HE5, HT2, HK5, HZ5⟩
            case measure => simp [intOf]; omega
      · have hjk2 : j = ks.length := by omega
        subst hjk2
        have HE2 : Hid (EmbF b (L ++ aheadT t ++ txK t.op true ks) wr) := Lib.hid (by
          have := HP2.out
          rw [List.drop_length, txK_nil, List.append_nil] at this
          rw [← this]; exact HE.out)
        have HX2' : Hid (TmB b wr (.slice A n2 c2) r) := Lib.hid (by have := HX.out; rwa [List.drop_length, flats_nil, List.nil_append] at this)
        go_wp2_with (go_at_call 63; refine (HB0.out _ HE2.out).mono ?_; rintro e w4 ⟨rfl, h4, hk4⟩)
        go_ret
        exact ⟨_, rfl, HX2'.out.below hk4.1, by rw [HTX.out]; simpa using h4, HK.out.trans hk4⟩
end Go.Proofs.YtdgcdemihalefaaGreatDoor
namespace Go.Proofs.YtdgcdemihalefaaGreatDoor
open Go.RowKit Np Rw Vp Up Qp Tp Pw Fw
theorem mem_flatsF : ∀ {ts : List (Tr Tm)} {k : Tr Tm} {x : Tm}, k ∈ ts → x ∈ flat k → x ∈ flats ts
  | a :: ts, k, x, h, hx => by
    rw [flats_cons]
    rcases List.mem_cons.1 h with e | h
    · subst e; exact List.mem_append.2 (.inl hx)
    · exact List.mem_append.2 (.inr (mem_flatsF h hx))
theorem filter_any : ∀ (n : Nat) (t : Tr Tm), (flat t).length ≤ n → okT tmany t → (∀ x ∈ flat t, FitP x) → FilterP t
  | 0, t, h, _, _ => absurd (flat_pos t) (by omega)
  | n + 1, .mk t ks, h, ho, hf => by
    rw [flat_mk] at h hf
    obtain ⟨h1, h2⟩ := okT_mk.1 ho
    have hin : ∀ k ∈ ks, ∀ x ∈ flat k, FitP x := fun k hk x hx => hf x (List.mem_cons_of_mem _ (mem_flatsF hk hx))
    have hlen : ∀ k ∈ ks, (flat k).length ≤ n := fun k hk => by
      have : ∀ (ts : List (Tr Tm)), k ∈ ts → (flat k).length ≤ (flats ts).length := fun ts => by
        induction ts with
        | nil => intro h; cases h
        | cons a ts ih =>
          intro h
          rw [flats_cons, List.length_append]
          rcases List.mem_cons.1 h with e | h
          · subst e; omega
          · have := ih h; omega
      have := this ks hk
      simp only [List.length_cons] at h
      omega
    exact filter_of t ks (hf t (by simp)) h1 (fun k hk => part_of t.op k (filter_any n k (hlen k hk) (okTs_all.1 h2 k hk) (hin k hk)))
      (fun k hk => (hin k hk k.nd (by rw [flat_eq]; simp)).nm)
theorem betweenT_ne {op : Int} (h : op = 4 ∨ op = 17 ∨ op = 18) : betweenT op ≠ [] := by
  unfold betweenT
  rcases h with h | h | h <;> subst h <;> simp
theorem txF_ne {t : Tr Tm} (ho : okT tmany t) (hp : plainT t.nd = true) : txF t ≠ [] := by
  rw [txF_eq]
  intro h
  obtain ⟨h1, h⟩ := List.append_eq_nil_iff.1 h
  obtain ⟨h2, -⟩ := List.append_eq_nil_iff.1 h
  by_cases h4 : t.nd.op = 4 ∨ t.nd.op = 17 ∨ t.nd.op = 18
  · have hm : t.nd.many = 2 := by
      unfold plainT at hp
      simp only [Bool.and_eq_true] at hp
      have := hp.1.1.1.2
      unfold manyOk at this
      rw [if_pos h4] at this
      simpa using this
    have h22 : t.ks.length = 2 := by
      have : tmany t.nd = t.ks.length := (okT_eq.1 ho).1
      unfold tmany at this
      omega
    obtain ⟨a, b, hk⟩ : ∃ a b, t.ks = [a, b] := by
      match t.ks, h22 with
      | [a, b], _ => exact ⟨a, b, rfl⟩
    rw [hk, txK_cons, txK_cons] at h2
    obtain ⟨-, h3⟩ := List.append_eq_nil_iff.1 h2
    obtain ⟨-, h3⟩ := List.append_eq_nil_iff.1 h3
    obtain ⟨h3, -⟩ := List.append_eq_nil_iff.1 h3
    unfold preT at h3
    obtain ⟨h3, -⟩ := List.append_eq_nil_iff.1 h3
    exact betweenT_ne h4 (by simpa using h3)
  · have ho : 0 ≤ t.nd.op ∧ t.nd.op ≤ 19 := by
      unfold plainT at hp
      simp only [Bool.and_eq_true] at hp
      simpa using hp.1.1.1.1
    unfold aheadT at h1
    rw [fieldT_eq] at h1
    have h4a : t.nd.op ≠ 4 := fun e => h4 (.inl e)
    have h4b : t.nd.op ≠ 17 := fun e => h4 (.inr (.inl e))
    have h4c : t.nd.op ≠ 18 := fun e => h4 (.inr (.inr e))
    generalize t.nd.op = o at *
    have hc : o = 0 ∨ o = 1 ∨ o = 2 ∨ o = 3 ∨ o = 5 ∨ o = 6 ∨ o = 7 ∨ o = 8 ∨ o = 9 ∨ o = 10 ∨ o = 11 ∨ o = 12 ∨ o = 13 ∨ o = 14 ∨ o = 15 ∨ o = 16 ∨ o = 19 := by omega
    rcases hc with h | h | h | h | h | h | h | h | h | h | h | h | h | h | h | h | h <;> subst h <;> simp at h1
structure FitX (t : Tr Tm) : Prop where
  ok : okT tmany t
  pl : plainT t.nd = true
  fit : ∀ x ∈ flat t, FitP x
  len : (txF t).length ≤ 100000000
set_option maxRecDepth 100000 in
set_option maxHeartbeats 2000000 in
theorem ttext_any (t : Tr Tm) (v : Value) (w : World) (hF : FitX t) (hv : Tms w v (flat t)) (hP : PowTab w) (hW : Wds w) (hS : Sgs w) :
    Calls Tryz.prog 13 #[v] w fun e w' => e = .returned (.string ⟨(txF t).toArray⟩) ∧ Below w.heap.size w w' := by
  have HE : Hid (EmbF w.heap.size [] (w.alloc (.cells #[.pointer none, .slice none 0 0] 67))) := Lib.hid
    (.inl ⟨.slice none 0 0, heap_alloc_new w _, World.ownsRowF_nil _ _ _ _, by simp [Value.ownBlock]⟩)
  have hb : Below w.heap.size w (w.alloc (.cells #[.pointer none, .slice none 0 0] 67)) := (Below.refl _ _).alloc (Nat.le_refl _) _
  have HB := Lib.hid hb
  have hnd : TmB w.heap.size (w.alloc (.cells #[.pointer none, .slice none 0 0] 67)) v (flat t ++ []) := by rw [List.append_nil]; exact (TmB.of hv (Nat.le_refl _)).below hb
  have HV := Lib.hid (filter_any _ t (Nat.le_refl _) hF.ok hF.fit w.heap.size [] [] v w _ ⟨hP, hW, hS, Nat.le_refl _, hb⟩ HE.out hnd (by simpa using hF.len))
  have HNE : Hid (txF t ≠ []) := Lib.hid (txF_ne hF.ok hF.pl)
  obtain ⟨A0, N0, c0, rfl⟩ : ∃ (A : Option Addr) (N c : Nat), v = .slice A N c := by obtain ⟨A, c, h, -⟩ := hv; exact ⟨A, _, c, h⟩
  clear hb hnd hv hP hW hS HE hF
  generalize txF t = T at *
  go_enter Tryz.func13, Tryz.ntmps13
  go_wp2_with (first
    | (go_at_call 34; refine HV.out.mono ?_; rintro e w2 ⟨v', rfl, hx2, h2, hk2⟩; obtain ⟨A2, N2, c2, rfl⟩ : ∃ (A : Option Addr) (N c : Nat), v' = .slice A N c := (by obtain ⟨A, c, h, -⟩ := hx2; exact ⟨A, _, c, h⟩); have HS := Lib.hid (fembText w.heap.size T w2 (by simpa using h2) HNE.out); have HK2 := Lib.hid (HB.out.trans hk2.1); clear h2 hk2 hx2)
    | (go_at_call 35; refine HS.out.mono ?_; rintro e w3 ⟨rfl, hb3⟩))
  go_ret
  exact ⟨rfl, HK2.out.trans hb3⟩
end Go.Proofs.YtdgcdemihalefaaGreatDoor
namespace Go.Proofs.YtdgcdemihalefaaGreatDoor
open Go.RowKit Np Rw Vp Pw Fw
structure FitTm (t : Tm) : Prop where
  s : t.s.length ≤ 1000000
  name : t.name.length ≤ 1000000
  c : FitC t.c
  many : t.many ≤ 9223372036854775807
theorem ExRow.at {W : World} {v : Value} {L : List Ex} {k : Nat} {e : Ex} (h : ExRow W v L) (hk : L[k]? = some e) : ∃ (g o c : Nat) (x : Value), v = .slice (some ⟨g, o, none⟩) L.length c ∧ g < W.heap.size ∧ W.cell? ⟨g, o + k, none⟩ = some x ∧ ExV W x e := by
  obtain ⟨vs, hl, hr, hx⟩ := h
  have hkl := (List.getElem?_eq_some_iff.1 hk).1
  obtain ⟨x, hxk⟩ : ∃ x, vs[k]? = some x := ⟨_, List.getElem?_eq_getElem (by rw [hl]; exact hkl)⟩
  obtain ⟨g, o, c, rfl, -, -, hg, hc⟩ := hr.opened (by omega)
  exact ⟨g, o, c, x, by rw [hl], hg, (hc k x hxk).one, hx k x e hxk hk⟩
theorem ExRow.below {W W' : World} {v : Value} {L : List Ex} (h : ExRow W v L) (hb : Below W.heap.size W W') : ExRow W' v L := by
  obtain ⟨vs, hl, hr, hx⟩ := h
  exact ⟨vs, hl, hr.below hb, fun k x e h1 h2 => (hx k x e h1 h2).below hb⟩
theorem tm_alloc (w : World) (t : Tm) : Tm11 (w.alloc (tmO t)) w.heap.size 0 t := by
  have h := heap_alloc_new w (tmO t)
  constructor <;> (rw [Lib.cell_of_heap h]; rfl)
set_option maxRecDepth 100000 in
set_option maxHeartbeats 4000000 in
theorem rightTerm_any (t : Tm) (w : World) (ht : FitTm t) (hT : Pv w) :
    Calls Tryz.prog 28 #[tma t] w fun e w' => e = .returned (.bool (plainT t)) ∧ Below w.heap.size w w' := by
  have hB : Below w.heap.size w w := Below.refl _ _
  have HP := Lib.hid (plainT_ex t ht.many)
  have HS := Lib.hid (fun W => shapeOf_any t.op W)
  unfold ShE at HS
  generalize plainT t = ans at *
  generalize knownT t.op = kn at *
  generalize leastM t.op = lst at *
  generalize mostM t.op = mst at *
  cases kn with
  | false =>
    have HA : Hid (ans = false) := Lib.hid (by rw [HP.out]; rfl)
    go_enter Tryz.func28, Tryz.ntmps28
    go_wp2_with (go_at_call 57; refine (HS.out _).mono ?_; rintro e w1 ⟨A, c, rfl, hr, hb1⟩; have HB1 := Lib.hid ((hB.alloc (Nat.le_refl _) (tmO t)).trans (hb1.mono (by simp))); have HR := Lib.hid hr; obtain ⟨q0, q1, q2, q3, q4, q5, q6, q7, q8, q9, q10⟩ := (tm_alloc w t).below (by simp) hb1; simp only [Nat.zero_add] at q1 q2 q3 q4 q5 q6 q7 q8 q9 q10; have hlt1 : w.heap.size < w1.heap.size := (by have := hb1.size; simp at this; omega); clear hr hb1)
    go_ret
    exact ⟨ret_bool HA.out.symm, HB1.out.alloc HB1.out.size _⟩
  | true =>
    by_cases h1 : t.many < lst
    · have HA : Hid (ans = false) := Lib.hid (by rw [HP.out, decide_eq_false (show ¬ lst ≤ t.many by omega)]; rfl)
      go_enter Tryz.func28, Tryz.ntmps28
      go_wp2_with (go_at_call 57; refine (HS.out _).mono ?_; rintro e w1 ⟨A, c, rfl, hr, hb1⟩; have HB1 := Lib.hid ((hB.alloc (Nat.le_refl _) (tmO t)).trans (hb1.mono (by simp))); have HR := Lib.hid hr; obtain ⟨q0, q1, q2, q3, q4, q5, q6, q7, q8, q9, q10⟩ := (tm_alloc w t).below (by simp) hb1; simp only [Nat.zero_add] at q1 q2 q3 q4 q5 q6 q7 q8 q9 q10; have hlt1 : w.heap.size < w1.heap.size := (by have := hb1.size; simp at this; omega); clear hr hb1)
      go_ret
      exact ⟨ret_bool HA.out.symm, HB1.out.alloc HB1.out.size _⟩
    · by_cases h2 : t.many > mst
      · have HA : Hid (ans = false) := Lib.hid (by rw [HP.out, decide_eq_false (show ¬ t.many ≤ mst by omega)]; simp)
        go_enter Tryz.func28, Tryz.ntmps28
        go_wp2_with (go_at_call 57; refine (HS.out _).mono ?_; rintro e w1 ⟨A, c, rfl, hr, hb1⟩; have HB1 := Lib.hid ((hB.alloc (Nat.le_refl _) (tmO t)).trans (hb1.mono (by simp))); have HR := Lib.hid hr; obtain ⟨q0, q1, q2, q3, q4, q5, q6, q7, q8, q9, q10⟩ := (tm_alloc w t).below (by simp) hb1; simp only [Nat.zero_add] at q1 q2 q3 q4 q5 q6 q7 q8 q9 q10; have hlt1 : w.heap.size < w1.heap.size := (by have := hb1.size; simp at this; omega); clear hr hb1)
        go_ret
        exact ⟨ret_bool HA.out.symm, HB1.out.alloc HB1.out.size _⟩
      · have HA : Hid (ans = ((exs t.op).all (exOk t) && decide (t = layEx t (exs t.op)))) := Lib.hid (by rw [HP.out, decide_eq_true (show lst ≤ t.many by omega), decide_eq_true (show t.many ≤ mst by omega)]; simp)
        have h1' : lst ≤ t.many := by omega
        have h2' : t.many ≤ mst := by omega
        clear h1 h2
        go_enter Tryz.func28, Tryz.ntmps28
        go_wp2_with (go_at_call 57; refine (HS.out _).mono ?_; rintro e w1 ⟨A, c, rfl, hr, hb1⟩; have HB1 := Lib.hid ((hB.alloc (Nat.le_refl _) (tmO t)).trans (hb1.mono (by simp))); have HR := Lib.hid hr; obtain ⟨q0, q1, q2, q3, q4, q5, q6, q7, q8, q9, q10⟩ := (tm_alloc w t).below (by simp) hb1; simp only [Nat.zero_add] at q1 q2 q3 q4 q5 q6 q7 q8 q9 q10; have hlt1 : w.heap.size < w1.heap.size := (by have := hb1.size; simp at this; omega); clear hr hb1)
        have HW2 : Hid (Below w1.heap.size w1 ((w1.alloc (.cells #[.int .i64 lst, .int .i64 mst, .slice A (exs t.op).length c] 92)).alloc (.cells #[.int .i64 t.op, .int .i64 t.many, .string ⟨t.name.toArray⟩, .string ⟨#[]⟩, .int .i64 0, .int .i64 0, .int .i64 0, .string ⟨#[]⟩, .string ⟨#[]⟩, .bool false, .int .i64 0] 47))) := Lib.hid (((Below.refl _ _).alloc (Nat.le_refl _) _).alloc (by simp) _)
        have HSZ : Hid (((w1.alloc (.cells #[.int .i64 lst, .int .i64 mst, .slice A (exs t.op).length c] 92)).alloc (.cells #[.int .i64 t.op, .int .i64 t.many, .string ⟨t.name.toArray⟩, .string ⟨#[]⟩, .int .i64 0, .int .i64 0, .int .i64 0, .string ⟨#[]⟩, .string ⟨#[]⟩, .bool false, .int .i64 0] 47)).heap.size = w1.heap.size + 1 + 1) := Lib.hid (by simp)
        have HB0 : Hid (BareAt ((w1.alloc (.cells #[.int .i64 lst, .int .i64 mst, .slice A (exs t.op).length c] 92)).alloc (.cells #[.int .i64 t.op, .int .i64 t.many, .string ⟨t.name.toArray⟩, .string ⟨#[]⟩, .int .i64 0, .int .i64 0, .int .i64 0, .string ⟨#[]⟩, .string ⟨#[]⟩, .bool false, .int .i64 0] 47)) (w1.heap.size + 1) (layEx t [])) := Lib.hid (by
          have := heap_alloc_new (w1.alloc (.cells #[.int .i64 lst, .int .i64 mst, .slice A (exs t.op).length c] 92)) (.cells #[.int .i64 t.op, .int .i64 t.many, .string ⟨t.name.toArray⟩, .string ⟨#[]⟩, .int .i64 0, .int .i64 0, .int .i64 0, .string ⟨#[]⟩, .string ⟨#[]⟩, .bool false, .int .i64 0] 47)
          rw [World.size_alloc] at this
          exact this)
        have HT1 : Hid (Tm11 w1 w.heap.size 0 t) := Lib.hid ⟨q0, by rw [Nat.zero_add]; exact q1, by rw [Nat.zero_add]; exact q2, by rw [Nat.zero_add]; exact q3, by rw [Nat.zero_add]; exact q4, by rw [Nat.zero_add]; exact q5, by rw [Nat.zero_add]; exact q6, by rw [Nat.zero_add]; exact q7, by rw [Nat.zero_add]; exact q8, by rw [Nat.zero_add]; exact q9, by rw [Nat.zero_add]; exact q10⟩
        have HR' := HR.out
        generalize ((w1.alloc (.cells #[.int .i64 lst, .int .i64 mst, .slice A (exs t.op).length c] 92)).alloc (.cells #[.int .i64 t.op, .int .i64 t.many, .string ⟨t.name.toArray⟩, .string ⟨#[]⟩, .int .i64 0, .int .i64 0, .int .i64 0, .string ⟨#[]⟩, .string ⟨#[]⟩, .bool false, .int .i64 0] 47)) = W2 at *
        clear q0 q1 q2 q3 q4 q5 q6 q7 q8 q9 q10 HS HP
        have heql := eql_tm
        have hlen := exs_len t.op
        generalize hn : (exs t.op).length = N at *
        have HN := Lib.hid hn; clear hn
        have HRR := Lib.hid HR'; clear HR' HR
        go_loopw [40] (fun iv wr => ∃ k : Nat, k ≤ N ∧ iv = .int .i64 k ∧ Hid (BareAt wr (w1.heap.size + 1) (layEx t ((exs t.op).take k))) ∧ Hid (∀ x ∈ (exs t.op).take k, exOk t x = true) ∧ Hid (Below (w1.heap.size + 1) W2 wr)) (fun iv _ => N - (intOf iv).toNat)
        case atStart => exact ⟨0, Nat.zero_le _, rfl, HB0, Lib.hid (by simp), Lib.hid (Below.refl _ _)⟩
        case round =>
          obtain ⟨k, hk, rfl, HBA, HAL, HB2⟩ := hrel
          have HB1w : Hid (Below w1.heap.size w1 wr) := Lib.hid (HW2.out.trans (HB2.out.mono (by omega)))
          have HBW : Hid (Below w.heap.size w wr) := Lib.hid (HB1.out.trans (HB1w.out.mono (by omega)))
          have hbl : (w1.heap.size + 1) < wr.heap.size := BareC.lt HBA.out
          obtain ⟨q0, q1, q2, q3, q4, q5, q6, q7, q8, q9, q10⟩ := HT1.out.below hlt1 HB1w.out
          simp only [Nat.zero_add] at q1 q2 q3 q4 q5 q6 q7 q8 q9 q10
          by_cases hlt : k < N
          · obtain ⟨e0, he0⟩ : ∃ e, (exs t.op)[k]? = some e := ⟨_, List.getElem?_eq_getElem (by rw [HN.out]; exact hlt)⟩
            have HE := Lib.hid he0
            obtain ⟨g, o, c', x, hv, hg, hxk1, hxv⟩ := HRR.out.at he0
            have hxk := (HB1w.out.cell (p := ⟨g, o + k, none⟩) hg).trans hxk1
            rw [HN.out] at hv
            injection hv with e1 _ e3
            subst e1 e3
            clear he0 hxk1
            cases e0 with
            | utf =>
              obtain ⟨B, rfl, hBlt1, hxc1⟩ := hxv
              have hBlt := Nat.lt_of_lt_of_le hBlt1 HB1w.out.size
              have hxc := (HB1w.out.cell (p := ⟨B, 0, none⟩) hBlt1).trans hxc1
              have hBne : B < (w1.heap.size + 1) := by omega
              clear hxc1
              cases hok : exOk t Ex.utf
              · have HX : Hid (ans = false) := Lib.hid (by rw [HA.out, Bool.and_eq_false_iff]; exact .inl (by rw [List.all_eq_false]; exact ⟨Ex.utf, List.mem_of_getElem? HE.out, by rw [hok]; simp⟩))
                have HOK := Lib.hid hok
                clear hok
                go_wp2_with (go_at_call 133; (refine (saysU_any t _ (w1.heap.size + 1) B w.heap.size ht.s wr HBA.out hxc hBlt (by omega) (fun w' h => hT.below (HBW.out.trans h))).mono ?_; rintro e w3 ⟨rfl, hb3, hk3⟩; rw [show (vld t.s) = _ from HOK.out]))
                go_ret
                exact ⟨ret_bool HX.out.symm, HBW.out.trans (hk3.below (by have := HBW.out.size; omega) (by omega))⟩
              · have HOK := Lib.hid hok
                have HAL2 : Hid (∀ x ∈ (exs t.op).take (k + 1), exOk t x = true) := Lib.hid (fun x hx => by
                  rw [List.take_add_one, HE.out] at hx
                  rcases List.mem_append.1 hx with hx | hx
                  · exact HAL.out x hx
                  · simp at hx; subst hx; exact HOK.out)
                have HLY : Hid (layEx t ((exs t.op).take (k + 1)) = exLay t (layEx t ((exs t.op).take k)) (Ex.utf)) := Lib.hid (by rw [List.take_add_one, HE.out]; exact layEx_snoc t _ _)
                clear hok
                go_wp2_with (go_at_call 133; (refine (saysU_any t _ (w1.heap.size + 1) B w.heap.size ht.s wr HBA.out hxc hBlt (by omega) (fun w' h => hT.below (HBW.out.trans h))).mono ?_; rintro e w3 ⟨rfl, hb3, hk3⟩; rw [show (vld t.s) = _ from HOK.out]))
                go_roundw
                case rel => exact ⟨k + 1, by omega, by go_num, Lib.hid (by rw [HLY.out]; exact hb3), HAL2, Lib.hid (HB2.out.trans (hk3.below (by have := HB2.out.size; have := HSZ.out; omega) (Nat.le_refl _)))⟩
                case measure => simp [intOf]; omega
            | pth =>
              obtain ⟨B, rfl, hBlt1, hxc1⟩ := hxv
              have hBlt := Nat.lt_of_lt_of_le hBlt1 HB1w.out.size
              have hxc := (HB1w.out.cell (p := ⟨B, 0, none⟩) hBlt1).trans hxc1
              have hBne : B < (w1.heap.size + 1) := by omega
              clear hxc1
              cases hok : exOk t Ex.pth
              · have HX : Hid (ans = false) := Lib.hid (by rw [HA.out, Bool.and_eq_false_iff]; exact .inl (by rw [List.all_eq_false]; exact ⟨Ex.pth, List.mem_of_getElem? HE.out, by rw [hok]; simp⟩))
                have HOK := Lib.hid hok
                clear hok
                go_wp2_with (go_at_call 133; (refine (saysP_any t _ (w1.heap.size + 1) B w.heap.size ht.s wr HBA.out hxc hBlt (by omega) (fun w' h => hT.below (HBW.out.trans h))).mono ?_; rintro e w3 ⟨rfl, hb3, hk3⟩; rw [show (isPth t.s) = _ from HOK.out]))
                go_ret
                exact ⟨ret_bool HX.out.symm, HBW.out.trans (hk3.below (by have := HBW.out.size; omega) (by omega))⟩
              · have HOK := Lib.hid hok
                have HAL2 : Hid (∀ x ∈ (exs t.op).take (k + 1), exOk t x = true) := Lib.hid (fun x hx => by
                  rw [List.take_add_one, HE.out] at hx
                  rcases List.mem_append.1 hx with hx | hx
                  · exact HAL.out x hx
                  · simp at hx; subst hx; exact HOK.out)
                have HLY : Hid (layEx t ((exs t.op).take (k + 1)) = exLay t (layEx t ((exs t.op).take k)) (Ex.pth)) := Lib.hid (by rw [List.take_add_one, HE.out]; exact layEx_snoc t _ _)
                clear hok
                go_wp2_with (go_at_call 133; (refine (saysP_any t _ (w1.heap.size + 1) B w.heap.size ht.s wr HBA.out hxc hBlt (by omega) (fun w' h => hT.below (HBW.out.trans h))).mono ?_; rintro e w3 ⟨rfl, hb3, hk3⟩; rw [show (isPth t.s) = _ from HOK.out]))
                go_roundw
                case rel => exact ⟨k + 1, by omega, by go_num, Lib.hid (by rw [HLY.out]; exact hb3), HAL2, Lib.hid (HB2.out.trans (hk3.below (by have := HB2.out.size; have := HSZ.out; omega) (Nat.le_refl _)))⟩
                case measure => simp [intOf]; omega
            | num m0 =>
              obtain ⟨B, rfl, hBlt1, hxc1⟩ := hxv
              have hBlt := Nat.lt_of_lt_of_le hBlt1 HB1w.out.size
              have hxc := (HB1w.out.cell (p := ⟨B, 0, none⟩) hBlt1).trans hxc1
              have hBne : B < (w1.heap.size + 1) := by omega
              clear hxc1
              cases hok : exOk t (Ex.num m0)
              · have HX : Hid (ans = false) := Lib.hid (by rw [HA.out, Bool.and_eq_false_iff]; exact .inl (by rw [List.all_eq_false]; exact ⟨(Ex.num m0), List.mem_of_getElem? HE.out, by rw [hok]; simp⟩))
                have HOK := Lib.hid hok
                clear hok
                go_wp2_with (go_at_call 134; (refine (countsN_any t _ (w1.heap.size + 1) B w.heap.size m0 wr HBA.out hxc hBlt (by omega) (fun w' h => hT.below (HBW.out.trans h))).mono ?_; rintro e w3 ⟨rfl, hb3, hk3⟩; rw [show (decide (0 ≤ t.n) && decide (t.n ≤ m0)) = _ from HOK.out]))
                go_ret
                exact ⟨ret_bool HX.out.symm, HBW.out.trans (hk3.below (by have := HBW.out.size; omega) (by omega))⟩
              · have HOK := Lib.hid hok
                have HAL2 : Hid (∀ x ∈ (exs t.op).take (k + 1), exOk t x = true) := Lib.hid (fun x hx => by
                  rw [List.take_add_one, HE.out] at hx
                  rcases List.mem_append.1 hx with hx | hx
                  · exact HAL.out x hx
                  · simp at hx; subst hx; exact HOK.out)
                have HLY : Hid (layEx t ((exs t.op).take (k + 1)) = exLay t (layEx t ((exs t.op).take k)) ((Ex.num m0))) := Lib.hid (by rw [List.take_add_one, HE.out]; exact layEx_snoc t _ _)
                clear hok
                go_wp2_with (go_at_call 134; (refine (countsN_any t _ (w1.heap.size + 1) B w.heap.size m0 wr HBA.out hxc hBlt (by omega) (fun w' h => hT.below (HBW.out.trans h))).mono ?_; rintro e w3 ⟨rfl, hb3, hk3⟩; rw [show (decide (0 ≤ t.n) && decide (t.n ≤ m0)) = _ from HOK.out]))
                go_roundw
                case rel => exact ⟨k + 1, by omega, by go_num, Lib.hid (by rw [HLY.out]; exact hb3), HAL2, Lib.hid (HB2.out.trans (hk3.below (by have := HB2.out.size; have := HSZ.out; omega) (Nat.le_refl _)))⟩
                case measure => simp [intOf]; omega
            | flt =>
              obtain ⟨B, rfl, hBlt1, hxc1⟩ := hxv
              have hBlt := Nat.lt_of_lt_of_le hBlt1 HB1w.out.size
              have hxc := (HB1w.out.cell (p := ⟨B, 0, none⟩) hBlt1).trans hxc1
              have hBne : B < (w1.heap.size + 1) := by omega
              clear hxc1
              cases hok : exOk t Ex.flt
              · have HX : Hid (ans = false) := Lib.hid (by rw [HA.out, Bool.and_eq_false_iff]; exact .inl (by rw [List.all_eq_false]; exact ⟨Ex.flt, List.mem_of_getElem? HE.out, by rw [hok]; simp⟩))
                have HOK := Lib.hid hok
                clear hok
                go_wp2_with (go_at_call 136; (refine (comparesC_any t _ (w1.heap.size + 1) B w.heap.size ht.c wr HBA.out hxc hBlt (Nat.ne_of_lt hBne) (by omega) (fun w' h => hT.below (HBW.out.trans h))).mono ?_; rintro e w3 ⟨rfl, hb3, hk3⟩; rw [show (flatN t.c) = _ from HOK.out]))
                go_ret
                exact ⟨ret_bool HX.out.symm, HBW.out.trans (hk3.below (by have := HBW.out.size; omega) (by omega))⟩
              · have HOK := Lib.hid hok
                have HAL2 : Hid (∀ x ∈ (exs t.op).take (k + 1), exOk t x = true) := Lib.hid (fun x hx => by
                  rw [List.take_add_one, HE.out] at hx
                  rcases List.mem_append.1 hx with hx | hx
                  · exact HAL.out x hx
                  · simp at hx; subst hx; exact HOK.out)
                have HLY : Hid (layEx t ((exs t.op).take (k + 1)) = exLay t (layEx t ((exs t.op).take k)) (Ex.flt)) := Lib.hid (by rw [List.take_add_one, HE.out]; exact layEx_snoc t _ _)
                clear hok
                go_wp2_with (go_at_call 136; (refine (comparesC_any t _ (w1.heap.size + 1) B w.heap.size ht.c wr HBA.out hxc hBlt (Nat.ne_of_lt hBne) (by omega) (fun w' h => hT.below (HBW.out.trans h))).mono ?_; rintro e w3 ⟨rfl, hb3, hk3⟩; rw [show (flatN t.c) = _ from HOK.out]))
                go_roundw
                case rel => exact ⟨k + 1, by omega, by go_num, Lib.hid (by rw [HLY.out]; exact hb3), HAL2, Lib.hid (HB2.out.trans (hk3.below (by have := HB2.out.size; have := HSZ.out; omega) (Nat.le_refl _)))⟩
                case measure => simp [intOf]; omega
          · have hke : k = N := by omega
            have hfull : (exs t.op).take k = exs t.op := List.take_of_length_le (by rw [HN.out]; omega)
            have HX : Hid (ans = decide (t = layEx t (exs t.op))) := Lib.hid (by
              rw [HA.out]
              have : (exs t.op).all (exOk t) = true := by rw [List.all_eq_true]; have := HAL.out; rwa [hfull] at this
              rw [this]; rfl)
            have HBA2 : Hid (BareAt wr (w1.heap.size + 1) (layEx t (exs t.op))) := Lib.hid (by have := HBA.out; rwa [hfull] at this)
            generalize layEx t (exs t.op) = lt at *
            have b0 := BareC.cell HBA2.out 0
            have b1 := BareC.cell HBA2.out 1
            have b2 := BareC.cell HBA2.out 2
            have b3 := BareC.cell HBA2.out 3
            have b4 := BareC.cell HBA2.out 4
            have b5 := BareC.cell HBA2.out 5
            have b6 := BareC.cell HBA2.out 6
            have b7 := BareC.cell HBA2.out 7
            have b8 := BareC.cell HBA2.out 8
            have b9 := BareC.cell HBA2.out 9
            have b10 := BareC.cell HBA2.out 10
            simp only [tmc, List.getElem?_toArray, List.getElem?_cons_succ, List.getElem?_cons_zero] at b0 b1 b2 b3 b4 b5 b6 b7 b8 b9 b10
            clear hfull
            go_wp2_with fail
            go_ret
            exact ⟨ret_bool HX.out.symm, HBW.out⟩
end Go.Proofs.YtdgcdemihalefaaGreatDoor
namespace Go.Proofs.YtdgcdemihalefaaGreatDoor
open Go.RowKit Np Rw Vp Pw Fw
theorem popF_mem : ∀ {st : List Hf} {y : Hf}, y ∈ popF st → y ∈ st
  | h :: st, y, hy => by
    unfold popF at hy
    split at hy
    · exact List.mem_cons_of_mem _ (popF_mem hy)
    · exact hy
theorem passF_left {h : Hf} {st : List Hf} {n : Tm} {B : Int} (hst : ∀ x ∈ h :: st, x.left ≤ B) (hn : n.many ≤ B) : ∀ y ∈ passF (h :: st) n, y.left ≤ B := by
  have hs : ∀ y ∈ stepF h n :: st, y.left ≤ B := by
    intro y hy
    rcases List.mem_cons.1 hy with rfl | hy
    · have := hst h (by simp); simp [stepF]; omega
    · exact hst y (by simp [hy])
  intro y hy
  rw [passF_cons] at hy
  split at hy
  · rcases List.mem_cons.1 hy with rfl | hy
    · exact hn
    · exact hs y hy
  · exact hs y (popF_mem hy)
theorem passF_ahead {h : Hf} {st : List Hf} {n : Tm} {B : Nat} (hst : ∀ x ∈ h :: st, x.ahead.length ≤ B) : ∀ y ∈ passF (h :: st) n, y.ahead.length ≤ B + 1 := by
  have hs : ∀ y ∈ stepF h n :: st, y.ahead.length ≤ B + 1 := by
    intro y hy
    rcases List.mem_cons.1 hy with rfl | hy
    · have := hst h (by simp); simp [stepF]; omega
    · have := hst y (by simp [hy]); omega
  intro y hy
  rw [passF_cons] at hy
  split at hy
  · rcases List.mem_cons.1 hy with rfl | hy
    · simp
    · exact hs y hy
  · exact hs y (popF_mem hy)
structure RgF (g p B : Nat) (h : Hp) (x : Tm) (W0 w' : World) : Prop where
  c0 : w'.cell? ⟨g, p * 3, none⟩ = some (.int .i64 h.h.op)
  c1 : w'.cell? ⟨g, p * 3 + 1, none⟩ = some (.int .i64 h.h.left)
  c2 : w'.cell? ⟨g, p * 3 + 2, none⟩ = some (.map h.b)
  t : Tm11 w' B 0 x
  hg : g < w'.heap.size
  hB : B < w'.heap.size
  tab : Pv w'
  mp : HMap w' h
  low : Below W0.heap.size W0 w'
theorem RgF.step {g p B : Nat} {h : Hp} {x : Tm} {W0 W W' : World} (hr : RgF g p B h x W0 W) (hb : Below W.heap.size W W') : RgF g p B h x W0 W' :=
  ⟨(hb.cell hr.hg).trans hr.c0, (hb.cell hr.hg).trans hr.c1, (hb.cell hr.hg).trans hr.c2, hr.t.below hr.hB hb, Nat.lt_of_lt_of_le hr.hg hb.size, Nat.lt_of_lt_of_le hr.hB hb.size, hr.tab.below hb, hr.mp.below hb, Below.after hr.low hb⟩
set_option maxRecDepth 100000 in
set_option maxHeartbeats 4000000 in
theorem tright_any (v : Value) (l : List Tm) (w : World) (hv : Tms w v l) (hl : l.length ≤ 60000) (hft : ∀ t ∈ l, FitTm t) (hT : Pv w) :
    Calls Tryz.prog 8 #[v] w fun e w' => e = .returned (.bool (rightF l)) ∧ Below w.heap.size w w' := by
  generalize hans : rightF l = ans
  have HANS := Lib.hid hans; clear hans
  have HFT := Lib.hid hft
  clear hft
  rcases Nat.eq_zero_or_pos l.length with h0 | h0
  · have e1 := List.eq_nil_of_length_eq_zero h0
    subst e1
    obtain ⟨A, c, rfl, -⟩ := hv
    have HE : Hid (ans = false) := Lib.hid (by rw [← HANS.out]; rfl)
    clear h0 hl
    simp only [List.length_nil]
    go_enter Tryz.func8, Tryz.ntmps8
    go_wp2_with fail
    refine (fbegin_any _).mono ?_
    rintro e w1 ⟨v1, l1, rfl, ho1, hm1, hl1, hb1⟩
    obtain ⟨x1, rfl⟩ := List.length_eq_one_iff.1 (show l1.length = 1 by have := congrArg List.length hl1; simpa [startF] using this)
    obtain ⟨g, cap, rfl, hg, hglt⟩ := ho1.opened (by simp)
    clear ho1 hm1 hl1
    simp only [List.length_singleton]
    go_wp2_with fail
    go_loopw [3, 9] (fun a b wr => a = .slice (some ⟨g, 0, none⟩) 1 cap ∧ b = .int .i64 0 ∧ wr = w1) (fun _ _ _ => 0)
    case atStart => exact ⟨rfl, rfl, rfl⟩
    case round =>
      obtain ⟨rfl, rfl, rfl⟩ := hrel
      go_wp2
      go_ret
      exact ⟨ret_bool HE.out.symm, hb1⟩
  · obtain ⟨gv, o, c, rfl, hc, hcm, hgv, hx⟩ := hv.opened h0
    have HX := Lib.hid hx; clear hx
    generalize hn : l.length = n at *
    have HN := Lib.hid hn; clear hn
    go_enter Tryz.func8, Tryz.ntmps8
    go_wp2_with fail
    refine (fbegin_any _).mono ?_
    rintro e w1 ⟨v1, l1, rfl, ho1, hm1, hl1, hb1⟩
    obtain ⟨x1, rfl⟩ := List.length_eq_one_iff.1 (show l1.length = 1 by have := congrArg List.length hl1; simpa [startF] using this)
    have hx1 : x1.h = ⟨9, 1, []⟩ := by simpa [startF] using hl1
    obtain ⟨g, cap, rfl, hg, hglt⟩ := ho1.opened (by simp)
    have HO := Lib.hid ho1; clear ho1
    have HM1 := Lib.hid hm1; clear hm1
    have HX1 := Lib.hid hx1; clear hx1 hl1
    simp only [List.length_singleton] at HO ⊢
    go_wp2_with fail
    go_loopw [3, 9] (fun a b wr => ∃ (k : Nat) (st : List Hp) (A : Option Addr) (cc : Nat), k ≤ n ∧ b = .int .i64 k ∧ a = .slice A st.length cc ∧ Hid (OwnHp w.heap.size wr (.slice A st.length cc) st) ∧ Hid (HMs w.heap.size wr st) ∧ Below w.heap.size w wr ∧ Hid (runF (st.map Hp.h).reverse (l.drop k) = ans) ∧ Hid (FitF (st.map Hp.h).reverse) ∧ Hid (∀ x ∈ (st.map Hp.h).reverse, x.left ≤ 9223372036854775807) ∧ Hid (∀ x ∈ (st.map Hp.h).reverse, x.ahead.length ≤ k) ∧ st.length ≤ k + 1) (fun _ b _ => n - (intOf b).toNat)
    case atStart => exact ⟨0, [x1], some ⟨g, 0, none⟩, cap, Nat.zero_le _, rfl, rfl, HO, HM1, hb1, Lib.hid (by have := HX1.out; simp [this]; exact HANS.out), Lib.hid (by have := HX1.out; simp [this, FitF]), Lib.hid (by have := HX1.out; simp [this]), Lib.hid (by have := HX1.out; simp [this]), by simp⟩
    case round =>
      obtain ⟨k, st, A, cc, hk, rfl, rfl, HOS, HMS, hbw, HR, HF, HLF, HLA, hsl⟩ := hrel
      by_cases hlt : k < n
      · obtain ⟨x, hx⟩ : ∃ a, l[k]? = some a := ⟨_, List.getElem?_eq_getElem (by rw [HN.out]; exact hlt)⟩
        obtain ⟨a0, a1, a2, a3, a4, a5, a6, a7, a8, a9, a10⟩ := (HX.out k x hx).tm.below hgv hbw
        have HD : Hid (l.drop k = x :: l.drop (k + 1)) := Lib.hid (drop_at hx)
        have HSN : Hid (FitTm x) := Lib.hid (HFT.out x (List.mem_of_getElem? hx))
        clear hx
        rcases List.eq_nil_or_concat st with rfl | ⟨pre, h, rfl⟩
        · have HE : Hid (ans = false) := Lib.hid (by rw [← HR.out, HD.out]; rfl)
          simp only [List.length_nil]
          go_wp2
          go_quiet (fail)
          go_wp2
          go_ret
          exact ⟨ret_bool HE.out.symm, drewN_below (hbw.alloc hbw.size _) _⟩
        · rw [List.concat_eq_append] at *
          have hrv : ((pre ++ [h]).map Hp.h).reverse = h.h :: (pre.map Hp.h).reverse := by simp
          rw [hrv] at HR HF HLF HLA
          have HRC : Hid (ans = (letsF h.h x && plainT x && runF (passF (h.h :: (pre.map Hp.h).reverse) x) (l.drop (k + 1)))) := Lib.hid (by rw [← HR.out, HD.out, runF_cons])
          have hh1 : 1 ≤ h.h.left := HF.out.1
          have hh2 : h.h.left ≤ 9223372036854775807 := HLF.out h.h (by simp)
          have hh3 : h.h.ahead.length ≤ k := HLA.out h.h (by simp)
          obtain ⟨g', cap', hA, hg', hglt'⟩ := HOS.out.opened (by simp)
          injection hA with hA _ hcc
          subst hA hcc
          have hW0 : ∃ W0, W0 = wr.alloc (.cells #[.int .i64 x.op, .int .i64 x.many, .string ⟨x.name.toArray⟩, .string ⟨x.s.toArray⟩, .int .i64 x.n, .int .i64 x.c.kind, .int .i64 x.c.many, .string ⟨x.c.name.toArray⟩, .string ⟨x.c.s.toArray⟩, .bool x.c.neg, .int .i64 x.c.e] 47) := ⟨_, rfl⟩
          obtain ⟨W0, hW0⟩ := hW0
          have hpl : (pre ++ [h]).length = pre.length + 1 := by simp
          have hp0 : ∃ p, p = pre.length := ⟨_, rfl⟩
          obtain ⟨p, hp⟩ := hp0
          have hbW : Below w.heap.size w W0 := by rw [hW0]; exact hbw.alloc hbw.size _
          have hbW2 : Below wr.heap.size wr W0 := by rw [hW0]; exact (Below.refl _ _).alloc (Nat.le_refl _) _
          have HOW : Hid (OwnHp w.heap.size W0 (.slice (some ⟨g', 0, none⟩) (pre ++ [h]).length cc) (pre ++ [h])) := Lib.hid (by rw [hW0]; exact HOS.out.alloc _)
          have HMW : Hid (HMs w.heap.size W0 (pre ++ [h])) := Lib.hid (HMS.out.below hbW2)
          have hat : (pre ++ [h])[pre.length]? = some h := by simp
          have hStart : RgF g' p wr.heap.size h x W0 W0 := by
            subst hp
            exact ⟨Own.cell hpc_len (j := 0) HOW.out hat rfl, Own.cell hpc_len (j := 1) HOW.out hat rfl, Own.cell hpc_len (j := 2) HOW.out hat rfl, by rw [hW0]; exact tm_alloc wr x, (Own.lt HOW.out).2, by rw [hW0]; simp, hT.below hbW, HMW.out.maps h (by simp), Below.refl _ _⟩
          clear hat
          rw [hpl, ← hp] at HOW hsl ⊢
          have HP := Lib.hid hp
          clear hp hpl hrv HOS
          have e0 : ((p : Int) + 1 == 0) = false := by simp; omega
          have hsz0 : W0.heap.size = wr.heap.size + 1 := by rw [hW0]; simp
          go_upto_region 5 with fail
          rw [← hW0]
          have HW0 := Lib.hid hW0
          have HSZ := Lib.hid hsz0
          clear hW0 hsz0 a0 a1 a2 a3 a4 a5 a6 a7 a8 a9 a10
          have w1 : IntKind.i64.wrap ((p : Int) + 1 - 1) = (p : Int) := by rw [Int.add_sub_cancel]; exact IntWalk.i64_in _ (by omega)
          have w2 : IntKind.i64.wrap (p : Int) = (p : Int) := IntWalk.i64_in _ (by omega)
          have w3 : (0 : Int) ≤ (p : Int) := by omega
          have w4 : (p : Int) < (p : Int) + 1 := by omega
          have w5 : (p : Int).toNat = p := by omega
          have HS2 : Hid (RgF g' p wr.heap.size h x W0 W0.drew) := Lib.hid (hStart.step (Below.refl _ _).drew)
          cases hle : letsF h.h x
          · have HLE := Lib.hid hle
            have HE : Hid (ans = false) := Lib.hid (by rw [HRC.out, hle]; rfl)
            clear hle
            go_cut [31] (fun s31 wx => s31 = .bool true ∧ Below W0.heap.size W0 wx)
            case first =>
              obtain ⟨z0, z1, z2, zt, -, -, -, -, -⟩ := hStart
              obtain ⟨y0, y1, y2, y3, y4, y5, y6, y7, y8, y9, y10⟩ := zt
              simp only [Nat.zero_add] at y1 y2 y3 y4 y5 y6 y7 y8 y9 y10
              go_still_tail 11, (by kernel_rfl)
              change wpList _ _ _ _ _ W0.drew
              generalize W0.drew = w2 at HS2 ⊢
              clear z0 z1 z2 y0 y1 y2 y3 y4 y5 y6 y7 y8 y9 y10
              go_wp2_with fail
              refine (flets_any h x _ HSN.out.name HS2.out.tab.tabs HS2.out.mp).mono ?_
              rintro e3 w3 ⟨rfl, hb3⟩
              rw [HLE.out]
              go_wp2_with fail
              go_meet
              exact ⟨by simp, Below.after HS2.out.low hb3⟩
            case rest =>
              obtain ⟨rfl, hBx⟩ := hcut
              go_wp2_with fail
              go_ret
              exact ⟨ret_bool HE.out.symm, Below.after hbW hBx⟩
          · have HLE := Lib.hid hle
            cases hpn : plainT x
            · have HPL := Lib.hid hpn
              have HE : Hid (ans = false) := Lib.hid (by rw [HRC.out, hle, hpn]; rfl)
              clear hle hpn
              go_cut [31] (fun s31 wx => s31 = .bool true ∧ Below W0.heap.size W0 wx)
              case first =>
                obtain ⟨z0, z1, z2, zt, -, -, -, -, -⟩ := hStart
                obtain ⟨y0, y1, y2, y3, y4, y5, y6, y7, y8, y9, y10⟩ := zt
                simp only [Nat.zero_add] at y1 y2 y3 y4 y5 y6 y7 y8 y9 y10
                go_still_tail 11, (by kernel_rfl)
                change wpList _ _ _ _ _ W0.drew
                generalize W0.drew = w2 at HS2 ⊢
                clear z0 z1 z2 y0 y1 y2 y3 y4 y5 y6 y7 y8 y9 y10
                go_wp2_with fail
                refine (flets_any h x _ HSN.out.name HS2.out.tab.tabs HS2.out.mp).mono ?_
                rintro e3 w3 ⟨rfl, hb3⟩
                rw [HLE.out]
                have HS3 := Lib.hid (HS2.out.step hb3)
                obtain ⟨z0, z1, z2, zt, -, -, -, -, -⟩ := HS3.out
                obtain ⟨y0, y1, y2, y3, y4, y5, y6, y7, y8, y9, y10⟩ := zt
                simp only [Nat.zero_add] at y1 y2 y3 y4 y5 y6 y7 y8 y9 y10
                clear hb3
                go_wp2_with fail
                refine (rightTerm_any x _ HSN.out HS3.out.tab).mono ?_
                rintro e4 w4 ⟨rfl, hb4⟩
                rw [HPL.out]
                clear z0 z1 z2 y0 y1 y2 y3 y4 y5 y6 y7 y8 y9 y10
                go_wp2_with fail
                go_meet
                exact ⟨by simp, Below.after HS3.out.low hb4⟩
              case rest =>
                obtain ⟨rfl, hBx⟩ := hcut
                go_wp2_with fail
                go_ret
                exact ⟨ret_bool HE.out.symm, Below.after hbW hBx⟩
            · have HPL := Lib.hid hpn
              have HE : Hid (ans = runF (passF (h.h :: (pre.map Hp.h).reverse) x) (l.drop (k + 1))) := Lib.hid (by rw [HRC.out, hle, hpn]; rfl)
              clear hle hpn
              go_cut [31] (fun s31 wx => s31 = .bool false ∧ Below W0.heap.size W0 wx)
              case first =>
                obtain ⟨z0, z1, z2, zt, -, -, -, -, -⟩ := hStart
                obtain ⟨y0, y1, y2, y3, y4, y5, y6, y7, y8, y9, y10⟩ := zt
                simp only [Nat.zero_add] at y1 y2 y3 y4 y5 y6 y7 y8 y9 y10
                go_still_tail 11, (by kernel_rfl)
                change wpList _ _ _ _ _ W0.drew
                generalize W0.drew = w2 at HS2 ⊢
                clear z0 z1 z2 y0 y1 y2 y3 y4 y5 y6 y7 y8 y9 y10
                go_wp2_with fail
                refine (flets_any h x _ HSN.out.name HS2.out.tab.tabs HS2.out.mp).mono ?_
                rintro e3 w3 ⟨rfl, hb3⟩
                rw [HLE.out]
                have HS3 := Lib.hid (HS2.out.step hb3)
                obtain ⟨z0, z1, z2, zt, -, -, -, -, -⟩ := HS3.out
                obtain ⟨y0, y1, y2, y3, y4, y5, y6, y7, y8, y9, y10⟩ := zt
                simp only [Nat.zero_add] at y1 y2 y3 y4 y5 y6 y7 y8 y9 y10
                clear hb3
                go_wp2_with fail
                refine (rightTerm_any x _ HSN.out HS3.out.tab).mono ?_
                rintro e4 w4 ⟨rfl, hb4⟩
                rw [HPL.out]
                clear z0 z1 z2 y0 y1 y2 y3 y4 y5 y6 y7 y8 y9 y10
                go_wp2_with fail
                go_meet
                exact ⟨by simp, Below.after HS3.out.low hb4⟩
              case rest =>
                obtain ⟨rfl, hBx⟩ := hcut
                have HSX := Lib.hid (hStart.step hBx)
                obtain ⟨z0, z1, z2, zt, -, -, -, -, -⟩ := HSX.out
                obtain ⟨y0, y1, y2, y3, y4, y5, y6, y7, y8, y9, y10⟩ := zt
                simp only [Nat.zero_add] at y1 y2 y3 y4 y5 y6 y7 y8 y9 y10
                have HOX := Lib.hid (HOW.out.below hBx)
                have HMX := Lib.hid (HMW.out.below hBx)
                have HBX := Lib.hid (Below.after hbW hBx)
                clear hBx hStart HS2
                go_wp2_with fail
                refine (fpass_any _ pre h x _ w.heap.size HOX.out HMX.out HBX.out.size (by rw [← HP.out]; omega) hh1 hh2 HSN.out.name (by omega)).mono ?_
                rintro e5 w5 ⟨v5, l5, rfl, ho5, hm5, hl5, hb5⟩
                obtain ⟨A5, c5, rfl, -, -, -⟩ := ho5.form
                have HO5 := Lib.hid ho5
                have HM5 := Lib.hid hm5
                have HB5 := Lib.hid (HBX.out.trans hb5)
                have hrv2 : ((pre ++ [h]).map Hp.h).reverse = h.h :: (pre.map Hp.h).reverse := by simp
                rw [hrv2] at hl5
                have HL5 : Hid ((l5.map Hp.h).reverse = passF (h.h :: (pre.map Hp.h).reverse) x) := Lib.hid (by rw [hl5, List.reverse_reverse])
                have hln5 := passF_len (h.h :: (pre.map Hp.h).reverse) x
                have hll5 : l5.length = (passF (h.h :: (pre.map Hp.h).reverse) x).length := by have := congrArg List.length HL5.out; simpa using this
                have hpp := HP.out
                simp only [List.length_cons, List.length_reverse, List.length_map] at hln5
                have HFT5 : Hid (FitF ((l5.map Hp.h).reverse)) := Lib.hid (by rw [HL5.out]; exact passF_fit HF.out)
                have HLF5 : Hid (∀ y ∈ (l5.map Hp.h).reverse, y.left ≤ 9223372036854775807) := Lib.hid (by rw [HL5.out]; exact passF_left HLF.out HSN.out.many)
                have HLA5 : Hid (∀ y ∈ (l5.map Hp.h).reverse, y.ahead.length ≤ k + 1) := Lib.hid (by rw [HL5.out]; exact passF_ahead HLA.out)
                clear ho5 hm5 hl5 hb5 hrv2 z0 z1 z2 y0 y1 y2 y3 y4 y5 y6 y7 y8 y9 y10
                go_wp2_with fail
                go_roundw
                case rel => exact ⟨k + 1, l5, A5, c5, by omega, by go_num, by rw [hll5], HO5, HM5, HB5.out, Lib.hid (by rw [HL5.out, HE.out]), HFT5, HLF5, HLA5, by omega⟩
                case measure => simp [intOf]; omega
      · have HE : Hid (ans = st.isEmpty) := Lib.hid (by rw [← HR.out, List.drop_of_length_le (by rw [HN.out]; omega), runF_nil]; simp)
        go_wp2
        go_ret
        refine ⟨ret_bool ?_, hbw⟩
        rw [HE.out]
        cases st with
        | nil => rfl
        | cons a t => simp; omega
end Go.Proofs.YtdgcdemihalefaaGreatDoor
namespace Go.Proofs.YtdgcdemihalefaaGreatDoor
open Go.RowKit Np Rw Vp Up Qp Tp Pw Fw
def bT (op many : Int) : Tm := ⟨op, many, [], [], 0, zeroC⟩
def cmpA : Tm := ⟨16, 0, [], [46, 97], 0, ⟨3, 0, [], [49], false, 0⟩⟩
def fldB : Tm := ⟨1, 0, [], [98], 0, zeroC⟩
def aT : Tr Tm := .mk (bT 5 1) [.mk (bT 4 2) [.mk (bT 7 1) [.mk cmpA []], .mk fldB []]]
def iT : Tr Tm := .mk (bT 0 0) []
def pT : Tr Tm := pipeT (pipeT iT aT) iT
theorem flat_a : flat aT = [bT 5 1, bT 4 2, bT 7 1, cmpA, fldB] := by simp [aT, flat_mk]
theorem flat_i : flat iT = [bT 0 0] := by simp [iT, flat_mk]
theorem right_a : rightF (flat aT) = true := by rw [flat_a]; decide +kernel
theorem right_e : rightF [] = false := by decide +kernel
theorem fltA : Flt aT := by
  refine ⟨?_, by decide +kernel, by decide +kernel, by decide +kernel⟩
  simp [aT, okT_mk, tmany, bT, cmpA, fldB]
theorem fltI : Flt iT := by
  refine ⟨?_, by decide +kernel, by decide +kernel, by decide +kernel⟩
  simp [iT, okT_mk, tmany, bT]
theorem fltP : Flt pT := pipe_right _ _ (pipe_right _ _ fltI fltA) fltI
theorem flat_p : flat pT = [bT 4 2, bT 0 0, bT 4 2, bT 5 1, bT 4 2, bT 7 1, cmpA, fldB, bT 0 0] := by decide +kernel
theorem text_a : txF aT = [109, 97, 112, 40, 115, 101, 108, 101, 99, 116, 40, 46, 97, 32, 61, 61, 32, 49, 41, 32, 124, 32, 46, 98, 41] := by decide +kernel
theorem text_p : txF pT = [46, 32, 124, 32, 109, 97, 112, 40, 115, 101, 108, 101, 99, 116, 40, 46, 97, 32, 61, 61, 32, 49, 41, 32, 124, 32, 46, 98, 41, 32, 124, 32, 46] := by decide +kernel
theorem fitB (op many : Int) (h0 : 0 ≤ op) (h1 : op ≤ 19) (h2 : op ≠ 16) (h3 : many ≤ 2) : FitTm (bT op many) ∧ FitP (bT op many) := by
  refine ⟨⟨by simp [bT], by simp [bT], ⟨by simp [bT, zeroC], by simp [bT, zeroC], by simp [bT, zeroC]⟩, ?_⟩, ⟨h0, h1, by simp [bT], by simp [bT], by simp [bT], by simp [bT], fun h => absurd h h2⟩⟩
  show many ≤ _
  omega
theorem fitD : FitTm fldB ∧ FitP fldB := ⟨⟨by decide, by decide, ⟨by decide, by decide, by decide⟩, by decide⟩, ⟨by decide, by decide, by decide, by decide, by decide, by decide, fun h => absurd h (by decide)⟩⟩
theorem fitC : FitTm cmpA ∧ FitP cmpA := by
  refine ⟨⟨by decide, by decide, ⟨by decide, by decide, by decide⟩, by decide⟩, ⟨by decide, by decide, by decide, by decide, by decide, by decide, fun _ => ⟨⟨⟨by simp [okT_mk, many, cmpA], by decide +kernel, ?_, by decide +kernel⟩, by decide +kernel⟩, by decide, by decide⟩⟩⟩
  intro x hx
  rw [flat_mk, flats_nil, List.mem_singleton] at hx
  subst hx
  exact ⟨by decide, by decide, by decide, by decide, by decide, by decide⟩
theorem fitP_all : ∀ x ∈ flat pT, FitTm x ∧ FitP x := by
  rw [flat_p]
  intro x hx
  simp only [List.mem_cons, List.not_mem_nil, or_false] at hx
  rcases hx with rfl | rfl | rfl | rfl | rfl | rfl | rfl | rfl | rfl
  · exact fitB 4 2 (by decide) (by decide) (by decide) (by decide)
  · exact fitB 0 0 (by decide) (by decide) (by decide) (by decide)
  · exact fitB 4 2 (by decide) (by decide) (by decide) (by decide)
  · exact fitB 5 1 (by decide) (by decide) (by decide) (by decide)
  · exact fitB 4 2 (by decide) (by decide) (by decide) (by decide)
  · exact fitB 7 1 (by decide) (by decide) (by decide) (by decide)
  · exact fitC
  · exact fitD
  · exact fitB 0 0 (by decide) (by decide) (by decide) (by decide)
theorem fitA_all : ∀ x ∈ flat aT, FitTm x ∧ FitP x := by
  intro x hx
  apply fitP_all
  rw [flat_a] at hx
  rw [flat_p]
  simp only [List.mem_cons, List.not_mem_nil, or_false] at hx ⊢
  rcases hx with h | h | h | h | h <;> simp [h]
theorem fitX_a : FitX aT := ⟨fltA.ok, by decide +kernel, fun x hx => (fitA_all x hx).2, by rw [text_a]; decide⟩
theorem fitX_p : FitX pT := ⟨fltP.ok, by decide +kernel, fun x hx => (fitP_all x hx).2, by rw [text_p]; decide⟩
end Go.Proofs.YtdgcdemihalefaaGreatDoor
