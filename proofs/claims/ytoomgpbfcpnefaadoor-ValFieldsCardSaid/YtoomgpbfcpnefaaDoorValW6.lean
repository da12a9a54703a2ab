/-
  What val's rows tells, one by one: a value's parts, in order, each as it stands in the row.
-/
import Derived.Test.YtoomgpbfcpnefaaDoorValW5
import Derived.RangeFuncNested
import Derived.RangeFuncBound
import Derived.RangeFuncCalls
import Derived.RangeFuncLeaves
import Derived.RangeFuncBox
import Derived.Shelf.Abstract
import Derived.Shelf.RegionOpen
import Derived.OwnWalkIn
import Derived.TacticsInMore
import Derived.LoopNIn
import Derived.LoopIn
namespace Go.Proofs.YtoomgpbfcpnefaaDoor
open Go.RowKit Go.Shelf Np Rw Vp
attribute [local go_sem] Oper.semAt_some

/-- A piece of a slice. -/
theorem Row.piece {α : Type} {enc : α → List Value} {sz g o c : Nat} {w : World} {l : List α} (h : Row enc sz w (.slice (some ⟨g, o, none⟩) l.length c) l) (k m : Nat) (hk : k + m ≤ l.length) :
    Row enc sz w (.slice (some ⟨g, o + k * sz, none⟩) m (c - k)) ((l.drop k).take m) := by
  obtain ⟨A, c', hv, hc, hm, -, H⟩ := h
  injection hv with e1 _ e3
  subst e1 e3
  have hl : ((l.drop k).take m).length = m := by simp; omega
  refine ⟨_, c - k, by rw [hl], by rw [hl]; omega, by omega, fun h => (by cases h), fun h0 => ?_⟩
  rw [hl] at h0
  obtain ⟨g', o', hA, hg, hx⟩ := H (by omega)
  injection hA with hA
  injection hA with e1 e2
  subst e1 e2
  refine ⟨g, o + k * sz, rfl, hg, fun i x hi => ?_⟩
  rw [List.getElem?_take] at hi
  split at hi
  · rw [List.getElem?_drop] at hi
    have := hx _ x hi
    rwa [Nat.add_mul, ← Nat.add_assoc] at this
  · cases hi
theorem Row.rest {α : Type} {enc : α → List Value} {sz g o c : Nat} {w : World} {l : List α} (h : Row enc sz w (.slice (some ⟨g, o, none⟩) l.length c) l) (k : Nat) (hk : k ≤ l.length) :
    Row enc sz w (.slice (some ⟨g, o + k * sz, none⟩) (l.length - k) (c - k)) (l.drop k) := by
  have := h.piece k (l.length - k) (by omega)
  rwa [List.take_of_length_le (by simp)] at this

/-- A part of a row: where it stands, and its tree. -/
abbrev Pt (L : List Nd) := { x : Nat × Tr Nd // okT many x.2 ∧ ∃ r, L.drop x.1 = flat x.2 ++ r }
abbrev ptv (g o c : Nat) {L : List Nd} (x : Pt L) : Value := .slice (some ⟨g, o + x.1.1 * 6, none⟩) (flat x.1.2).length (c - x.1.1)
def Spread (L : List Nd) : Nat → List (Tr Nd) → List (Pt L) → Prop
  | _, [], [] => True
  | p, t :: ts, x :: xs => x.1 = (p, t) ∧ Spread L (p + (flat t).length) ts xs
  | _, _, _ => False
theorem spread_ex {L : List Nd} : ∀ (ts : List (Tr Nd)) (p : Nat) (r : List Nd), okTs many ts → L.drop p = flats ts ++ r → ∃ xs, Spread L p ts xs
  | [], _, _, _, _ => ⟨[], trivial⟩
  | t :: ts, p, r, h, hd => by
    obtain ⟨h1, h2⟩ := okTs_cons.1 h
    rw [flats_cons, List.append_assoc] at hd
    obtain ⟨xs, hx⟩ := spread_ex ts (p + (flat t).length) r h2 (by rw [← List.drop_drop, hd, List.drop_left])
    exact ⟨⟨(p, t), h1, _, hd⟩ :: xs, rfl, hx⟩
theorem spread_trees {L : List Nd} : ∀ {ts : List (Tr Nd)} {p : Nat} {xs : List (Pt L)}, Spread L p ts xs → xs.map (fun x => x.1.2) = ts
  | [], _, [], _ => rfl
  | t :: ts, p, x :: xs, h => by
    obtain ⟨h1, h2⟩ := h
    rw [List.map_cons, spread_trees h2, h1]
  | [], _, _ :: _, h => h.elim
  | _ :: _, _, [], h => h.elim
theorem pt_row {L : List Nd} {w : World} {g o c : Nat} (h : Nds w (.slice (some ⟨g, o, none⟩) L.length c) L) (x : Pt L) : Nds w (ptv g o c x) (flat x.1.2) := by
  obtain ⟨⟨p, t⟩, h1, r, h2⟩ := x
  have hl := part_lt h2
  have := h.piece p (flat t).length hl
  rwa [h2, List.take_left] at this

/-- How long a slice is. -/
def lenS : Value → Nat
  | .slice _ n _ => n
  | _ => 0

set_option maxRecDepth 100000 in
set_option maxHeartbeats 2000000 in
theorem rows1_in (n : Nat) (hn : 1 ≤ n) (l Bn n₀ g o c : Nat) (t : Tr Nd) (xs : List (Pt (flat t))) (J Jx : List (Pt (flat t)) → World → Prop)
    (ht : Val t) (hlen : (flat t).length ≤ 65536) (hsp : Spread (flat t) 1 t.ks xs)
    (hY : ∀ pre x W, J pre W → pre.length < xs.length → YieldAt Fence.wide (n - 1) Tryd.prog l #[ptv g o c x] W fun e W' =>
      (e = .returned (.bool true) ∧ J (pre ++ [x]) W' ∧ Below n₀ W W') ∨ (e = .returned (.bool false) ∧ Jx (pre ++ [x]) W'))
    (W : World) (hJ : AbidesFrom W.heap.size J) (hBn : W.cell? ⟨Bn, 0, none⟩ = some (.slice (some ⟨g, o, none⟩) (flat t).length c)) (hg : g < n₀) (hL : Nds W (.slice (some ⟨g, o, none⟩) (flat t).length c) (flat t)) (h0 : J [] W) (hn0 : n₀ ≤ W.heap.size) :
    CallsIn Fence.wide n Tryd.prog 60 #[.func (.yield l) #[] #[], .pointer (some ⟨Bn, 0, none⟩)] W fun e W' => (∃ v, e = .returned v) ∧
      ((∃ ys, ys = xs ∧ J ys W') ∨ (∃ pre, pre <+: xs ∧ Jx pre W')) := by
  have hpos := flat_pos t
  have hLH := Lib.hid hL
  have hHD : (flat t)[0]? = some t.nd := by rw [flat_eq]; rfl
  obtain ⟨g', o', c', hv', -, hcm, hgW, hx⟩ := hL.opened hpos
  injection hv' with e1 _ e3
  injection e1 with e1
  injection e1 with e1 e2
  subst e1 e2 e3
  obtain ⟨a0, -, -, -, -, -⟩ := (hx 0 _ hHD).nd
  simp only [Nat.zero_mul, Nat.add_zero] at a0
  have hc : (flat t).length ≤ c := by obtain ⟨A, c2, hv2, hc2, -⟩ := hL; injection hv2 with _ _ e3; omega
  have HKS : Hid ((flat t).drop 1 = flats t.ks) := Lib.hid (by rw [flat_eq]; rfl)
  have HOK : Hid (okTs many t.ks) := Lib.hid (okT_eq.1 ht.ok).2
  have HNK : Hid (cont t.nd.kind = false → t.ks = []) := Lib.hid (fun hc => by
    have h1 := ht.rt
    rw [rightT_eq, Bool.and_eq_true] at h1
    have h2 := (plainN_many h1.1).2
    have h3 : t.nd.many = t.ks.length := (okT_eq.1 ht.ok).1
    simp [cont] at hc
    have := h2 hc.1 hc.2
    exact List.eq_nil_of_length_eq_zero (by omega))
  have HSP := Lib.hid hsp
  have HJ := Lib.hid hJ
  have HY := Lib.hid hY
  clear hx hHD hL ht hsp hJ hY
  generalize hN : (flat t).length = N at *
  have HN := Lib.hid hN; clear hN
  have e0 : ((N : Int) == 0) = false := by simp; omega
  refine callsIn_of_wp Tryd.func60 rfl trivial ?_ rfl
  simp only [Tryd.ntmps60, List.size_toArray, List.length_cons, List.length_nil, Nat.reduceAdd, Nat.reduceSub, Array.replicate_succ, Array.replicate_zero, List.push_toArray, List.append_toArray, List.nil_append, List.cons_append]
  cases hcn : cont t.nd.kind
  · have HCN := Lib.hid hcn
    have HXS : Hid (xs = []) := Lib.hid (by
      have := HSP.out
      rw [HNK.out hcn] at this
      cases xs with
      | nil => rfl
      | cons x xs => exact this.elim)
    clear hcn
    gi_wp2_with (refine ⟨trivial, ?_⟩; gi_at_call 44; refine (callsIn_wide.2 (holdsParts_any _ _)).mono ?_; rintro e w' ⟨rfl, rfl⟩; rw [HCN.out])
    refine bodyPost_ret (results_none rfl _ _ _) rfl ?_
    exact ⟨⟨_, rfl⟩, .inl ⟨[], HXS.out.symm, h0⟩⟩
  · have HCN := Lib.hid hcn
    clear hcn HNK
    by_cases hc1 : c = 1
    · have hN1 : N = 1 := by omega
      subst hc1 hN1
      have HXS : Hid (xs = []) := Lib.hid (by
        have h1 : flats t.ks = [] := by rw [← HKS.out, List.drop_of_length_le (by rw [HN.out]; omega)]
        have h2 : t.ks = [] := by
          cases hk : t.ks with
          | nil => rfl
          | cons u ts => rw [hk, flats_cons] at h1; exact absurd (List.append_eq_nil_iff.1 h1).1 (flat_ne u)
        have := HSP.out
        rw [h2] at this
        cases xs with
        | nil => rfl
        | cons x xs => exact this.elim)
      gi_wp2_with (first | (refine ⟨trivial, ?_⟩; gi_at_call 44; refine (callsIn_wide.2 (holdsParts_any _ _)).mono ?_; rintro e w' ⟨rfl, rfl⟩; rw [HCN.out]))
      gi_loopw [3] (fun s3 wr => s3 = .slice (some ⟨g, o, none⟩) 0 0 ∧ wr = W) (fun _ _ => 0)
      case atStart => exact ⟨rfl, rfl⟩
      case round =>
        obtain ⟨rfl, rfl⟩ := hrel
        gi_wp2_with fail
        go_end0
        exact ⟨⟨_, rfl⟩, .inl ⟨[], HXS.out.symm, h0⟩⟩
    · skip
      gi_wp2_with (first | (refine ⟨trivial, ?_⟩; gi_at_call 44; refine (callsIn_wide.2 (holdsParts_any _ _)).mono ?_; rintro e w' ⟨rfl, rfl⟩; rw [HCN.out]))
      gi_loopw [3] (fun s3 wr => ∃ (pre post : List (Pt (flat t))) (ts : List (Tr Nd)) (p : Nat) (A : Option Addr) (cc : Nat), xs = pre ++ post ∧ Spread (flat t) p ts post ∧ okTs many ts ∧ (flat t).drop p = flats ts ∧ p ≤ N ∧ 1 ≤ p ∧ s3 = .slice A (N - p) cc ∧ (p < N → A = some ⟨g, o + p * 6, none⟩ ∧ cc = c - p) ∧ J pre wr ∧ Below n₀ W wr)
        (fun s3 _ => lenS s3)
      case atStart =>
        refine ⟨[], xs, t.ks, 1, _, _, rfl, HSP.out, HOK.out, HKS.out, by omega, by omega, rfl, fun h => ?_, h0, Below.refl _ _⟩
        first | exact ⟨rfl, rfl⟩ | omega
      case round =>
        obtain ⟨pre, post, ts, p, A, cc, hxs, hsp, hok, hdr, hp, hp1, rfl, hA, hJs, hbw⟩ := hrel
        have HXS := Lib.hid hxs
        have HJS := Lib.hid hJs
        have HDR := Lib.hid hdr
        by_cases hpN : p < N
        · obtain ⟨rfl, rfl⟩ := hA hpN
          have HLR : Hid (Nds wr (.slice (some ⟨g, o + p * 6, none⟩) (N - p) (c - p)) ((flat t).drop p)) := Lib.hid (by
            have h1 := hLH.out
            have h2 := HN.out
            rw [← h2] at h1
            have h3 := (h1.low hg hbw).rest p (by omega)
            rwa [h2] at h3)
          cases ts with
          | nil =>
            have := congrArg List.length hdr
            rw [List.length_drop, HN.out] at this
            simp at this; omega
          | cons u ts' =>
            cases post with
            | nil => exact hsp.elim
            | cons x post' =>
              obtain ⟨hx1, hsp'⟩ := hsp
              obtain ⟨hok1, hok2⟩ := okTs_cons.1 hok
              rw [flats_cons] at hdr
              have HSZ := Lib.hid (size_any _ _ u (flats ts') wr HLR.out (by rw [List.length_drop, HN.out]; omega) hdr hok1)
              have hfu := flat_pos u
              have hfl : p + (flat u).length ≤ N := by have := congrArg List.length hdr; rw [List.length_drop, HN.out, List.length_append] at this; omega
              have HDR2 : Hid ((flat t).drop (p + (flat u).length) = flats ts') := Lib.hid (by rw [← List.drop_drop, hdr, List.drop_left])
              have HPT : Hid (ptv g o c x = .slice (some ⟨g, o + p * 6, none⟩) (flat u).length (c - p)) := Lib.hid (by simp only [ptv, hx1])
              have HPL : Hid (pre.length < xs.length) := Lib.hid (by rw [hxs]; simp)
              have HSP2 := Lib.hid hsp'
              have HOK2 := Lib.hid hok2
              clear hxs hJs hdr hsp' hok hok1 hok2 hx1 hA
              generalize hU : (flat u).length = U at *
              have HU := Lib.hid hU; clear hU
              have g1 : (0 : Int) < (N : Int) - p := by omega
              have g2 : decide (0 < N - p) = true := by simp; omega
              gi_wp2_with fail
              refine ⟨trivial, ?_⟩
              refine (callsIn_wide.2 HSZ.out).mono ?_
              rintro e w1 ⟨rfl, hb1⟩
              have hJ1 : J pre w1 := HJ.out pre wr w1 none HJS.out ⟨hb1.os, hb1.tape, hb1.output, hb1.size, fun k hk _ => hb1.block k hk⟩ (fun r h => by cases h)
              have HB1 : Hid (Below n₀ W w1) := Lib.hid (hbw.trans (hb1.mono (Nat.le_trans hn0 hbw.size)))
              obtain ⟨fn, tmps, assign, body, hy, hR⟩ := HY.out pre x w1 hJ1 HPL.out
              rw [HPT.out] at hy
              have HR := Lib.hid hR
              clear hb1 hJ1 hR hbw
              gi_wp2_with fail
              refine HR.out.mono ?_
              rintro e W3 (⟨rfl, hJ3, hk3⟩ | ⟨rfl, hJx3⟩)
              · have HJ3 := Lib.hid hJ3
                have HB3 := Lib.hid (HB1.out.trans hk3)
                clear hJ3 hk3 hy
                gi_wp2_with fail
                all_goals
                  go_roundw
                  case rel =>
                    refine ⟨pre ++ [x], post', ts', p + U, _, _, by rw [HXS.out]; simp, HSP2.out, HOK2.out, HDR2.out, by omega, by omega, by congr 1; omega, fun h => ?_, HJ3.out, HB3.out⟩
                    exact ⟨by rw [if_neg (by omega)]; congr 2; omega, by omega⟩
                  case measure => simp [lenS]; omega
              · have HJX := Lib.hid hJx3
                clear hJx3 hy
                gi_wp2_with fail
                refine bodyPost_ret (results_none rfl _ _ _) rfl ?_
                exact ⟨⟨_, rfl⟩, .inr ⟨pre ++ [x], ⟨post', by rw [HXS.out]; simp⟩, HJX.out⟩⟩
        · have hpe : p = N := by omega
          have HE : Hid (xs = pre) := Lib.hid (by
            have h1 : flats ts = [] := by rw [← hdr, List.drop_of_length_le (by rw [HN.out]; omega)]
            have h2 : ts = [] := by
              cases ts with
              | nil => rfl
              | cons u ts => rw [flats_cons] at h1; exact absurd (List.append_eq_nil_iff.1 h1).1 (flat_ne u)
            subst h2
            cases post with
            | nil => simpa using hxs
            | cons x post => exact hsp.elim)
          subst hpe
          clear hxs hJs hdr hsp hok hA
          simp only [Nat.sub_self]
          gi_wp2_with fail
          go_end0
          exact ⟨⟨_, rfl⟩, .inl ⟨pre, HE.out.symm, HJS.out⟩⟩

/-- What val.rows hands back: the value is boxed; the function value captures the box. -/
theorem rows_in (n : Nat) (A : Option Addr) (m c : Nat) (w : World) :
    CallsIn Fence.wide n Tryd.prog 45 #[.slice A m c] w fun e w' => e = .returned (.func (.func 60) #[] #[.pointer (some ⟨w.heap.size, 0, none⟩)]) ∧ w' = w.alloc (.cells #[.slice A m c] 23) := by
  refine callsIn_of_wp Tryd.func45 rfl trivial ?_ rfl
  simp only [Tryd.ntmps45, List.size_toArray, List.length_cons, List.length_nil, Nat.reduceAdd, Nat.reduceSub, Array.replicate_succ, Array.replicate_zero, List.push_toArray, List.append_toArray, List.nil_append, List.cons_append]
  gi_wp2
  go_ret
  exact ⟨rfl, rfl⟩

theorem rows_stops (n : Nat) (hn : 1 ≤ n) (Bn n₀ g o c : Nat) (t : Tr Nd) (xs : List (Pt (flat t))) (ht : Val t) (hlen : (flat t).length ≤ 65536) (hsp : Spread (flat t) 1 t.ks xs) (w : World) (hBw : Bn < w.heap.size) (hn₀ : n₀ ≤ w.heap.size)
    (hc : w.cell? ⟨Bn, 0, none⟩ = some (.slice (some ⟨g, o, none⟩) (flat t).length c)) (hg : g < n₀) (hL : Nds w (.slice (some ⟨g, o, none⟩) (flat t).length c) (flat t)) :
    SeqStopsK Fence.wide n Tryd.prog 60 #[.pointer (some ⟨Bn, 0, none⟩)] (fun x : Pt (flat t) => #[ptv g o c x]) (Below n₀) (fun ys => ys = xs) (fun pre => pre <+: xs) xs.length w := fun l J Jx W hW hJ _ hY h0 =>
  rows1_in n hn l Bn n₀ g o c t xs J Jx ht hlen hsp hY W hJ ((hW.cell (p := ⟨Bn, 0, none⟩) hBw).trans hc) hg (hL.below hW) h0 (Nat.le_trans hn₀ hW.size)
end Go.Proofs.YtoomgpbfcpnefaaDoor
