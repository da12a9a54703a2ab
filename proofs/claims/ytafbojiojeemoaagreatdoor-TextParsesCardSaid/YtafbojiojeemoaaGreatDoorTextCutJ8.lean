/-
  Joined: Tx4, Tx5, Tx6, Tx7.
-/
import Derived.Test.YtafbojiojeemoaaGreatDoorTextCutJ7
import Derived.Shelf.Abstract
import Derived.Deep.RegionLaw
import Derived.Maps.OwnSet
import Derived.Maps.Views

/-
  What the reader's parts is, whatever reads each part.
-/
namespace Go.Proofs.YtafbojiojeemoaaGreatDoor
open Go.RowKit Np Rw Vp Up Qp Tp

theorem Rd.deeper {rb : Nat} {s : ByteArray} {i d : Nat} {w : World} (h : Rd rb s i d w) : Rd rb s i (d + 1) (w.setCell ⟨rb, 2, none⟩ (.int .i64 ((d : Int) + 1))) := h.into (d + 1)
theorem ptR_at {α β : Type} {rd : Nat → Rs α} {put : β → α → β} {zero : β} {S : List UInt8} {c j : Nat} (h : isAt S (j + 1) c = true) : ptR rd put zero S c j = .ok zero (sk S (j + 1) + 1) := by
  unfold ptR; rw [if_pos (isAt_iff.1 h)]
theorem ptR_not {α β : Type} {rd : Nat → Rs α} {put : β → α → β} {zero : β} {S : List UInt8} {c j : Nat} (h : isAt S (j + 1) c = false) : ptR rd put zero S c j = lpR rd put S c (S.length + 1) (sk S (j + 1)) zero := by
  unfold ptR; rw [if_neg (fun h' => by rw [isAt_iff.2 h'] at h; cases h)]
theorem lpA_at {α β : Type} {rd : Nat → Rs α} {put : β → α → β} {acc : β} {S : List UInt8} {c m k : Nat} (h : isAt S k c = true) : lpA rd put S c m k acc = .ok acc (sk S k + 1) := by
  unfold lpA; rw [if_pos (isAt_iff.1 h)]
theorem lpA_more {α β : Type} {rd : Nat → Rs α} {put : β → α → β} {acc : β} {S : List UInt8} {c m k : Nat} (h : isAt S k c = false) (h2 : isAt S k 44 = true) : lpA rd put S c m k acc = lpR rd put S c m (sk S k + 1) acc := by
  unfold lpA; rw [if_neg (fun h' => by rw [isAt_iff.2 h'] at h; cases h), if_pos (isAt_iff.1 h2)]
theorem lpA_bad {α β : Type} {rd : Nat → Rs α} {put : β → α → β} {acc : β} {S : List UInt8} {c m k : Nat} (h : isAt S k c = false) (h2 : isAt S k 44 = false) : lpA rd put S c m k acc = .bad 1 (sk S k) := by
  unfold lpA; rw [if_neg (fun h' => by rw [isAt_iff.2 h'] at h; cases h), if_neg (fun h' => by rw [isAt_iff.2 h'] at h2; cases h2)]
theorem past_not {S : List UInt8} {i c : Nat} (h : isAt S i c = false) : past S i c = sk S i := by unfold past; rw [h]; rfl
theorem past_at {S : List UInt8} {i c : Nat} (h : isAt S i c = true) : past S i c = sk S i + 1 := by unfold past; rw [h]; rfl
theorem isAt_sk (S : List UInt8) (i c : Nat) : isAt S (sk S i) c = isAt S i c := by unfold isAt; rw [sk_sk]

set_option maxHeartbeats 4000000 in
theorem parts_any {α β : Type} (K : Nat) (cap : Array Value) (c : Nat) (rd : Nat → Rs α) (put : β → α → β) (zero : β) (St : Nat → β → World → Prop) (base : World) (rb : Nat) (s : ByteArray) (j d : Nat) (w : World)
    (eK : ∀ args w, (callFunc K args).run Tryz.prog w = .ok (.enter K args) w) (hc : c ≠ 0) (hd : d < 128) (hj : j < s.size) (hs : s.size ≤ 400000)
    (hr : Rd rb s j d w) (hb : Kb base.heap.size rb base w) (h0 : St j zero w)
    (hk : ∀ i acc W W' k x, St i acc W → Rd rb s k x W → Kb W.heap.size rb W W' → St i acc W')
    (hm : ∀ i k acc W, St i acc W → i ≤ k → St k acc W)
    (hG : ∀ i v k, rd i = .ok v k → i < k ∧ k ≤ s.size)
    (HF : ∀ i acc W, j < i → i ≤ s.size → St (i - 1) acc W → Rd rb s i (d + 1) W → Kb base.heap.size rb base W → Calls Tryz.prog K cap W (PtE rb s (d + 1) St base (mapR (put acc) (rd i)))) :
    Calls Tryz.prog 90 #[.pointer (some ⟨rb, 0, none⟩), .int .u8 c, .func (.func K) #[] cap] w (PtE rb s d St base (ptR rd put zero s.data.toList c j)) := by
  have HR := Lib.hid hr
  have HB := Lib.hid hb
  have H0 := Lib.hid h0
  have HK := Lib.hid hk
  have HM := Lib.hid hm
  have HG := Lib.hid hG
  have HFF := Lib.hid HF
  have c1 := hr.c1
  have c2 := hr.c2
  have f1 := hr.fz 1
  have f2 := hr.fz 2
  have hdb : ((d : Int) == 128) = false := by simp; omega
  -- the world in which the first mark is passed
  have HR1 : Hid (Rd rb s (j + 1) (d + 1) ((w.setCell ⟨rb, 2, none⟩ (.int .i64 ((d : Int) + 1))).setCell ⟨rb, 1, none⟩ (.int .i64 ((j : Int) + 1)))) := Lib.hid hr.deeper.up
  have HB1 : Hid (Kb base.heap.size rb base ((w.setCell ⟨rb, 2, none⟩ (.int .i64 ((d : Int) + 1))).setCell ⟨rb, 1, none⟩ (.int .i64 ((j : Int) + 1)))) := Lib.hid ((hb.set 2 _).set 1 _)
  have H01 : Hid (St (sk s.data.toList (j + 1) - 1) zero ((w.setCell ⟨rb, 2, none⟩ (.int .i64 ((d : Int) + 1))).setCell ⟨rb, 1, none⟩ (.int .i64 ((j : Int) + 1)))) := Lib.hid (hm j _ _ _ (hk _ _ _ _ _ _ h0 hr (((Kb.refl _ _ _).set 2 _).set 1 _)) (by have := sk_ge s.data.toList (j + 1); omega))
  have HT := Lib.hid (fun W h => takes_any rb s (j + 1) (d + 1) c W h (by omega) hs)
  clear hr hb h0 hk hm hG HF
  have HZ : Hid (isAt s.data.toList (j + 1) c = true → ptR rd put zero s.data.toList c j = .ok zero (sk s.data.toList (j + 1) + 1)) := Lib.hid ptR_at
  have HL : Hid (isAt s.data.toList (j + 1) c = false → ptR rd put zero s.data.toList c j = lpR rd put s.data.toList c (s.data.toList.length + 1) (sk s.data.toList (j + 1)) zero) := Lib.hid ptR_not
  generalize ptR rd put zero s.data.toList c j = R at *
  go_enter Tryz.func90, Tryz.ntmps90
  go_wp2_with fail
  generalize (w.setCell ⟨rb, 2, none⟩ (.int .i64 ((d : Int) + 1))).setCell ⟨rb, 1, none⟩ (.int .i64 ((j : Int) + 1)) = W1 at HR1 HB1 H01 ⊢
  refine (HT.out W1 HR1.out).mono ?_
  rintro e w2 ⟨rfl, hr2, hk2⟩
  have HB2 : Hid (Kb base.heap.size rb base w2) := Lib.hid (HB1.out.trans (hk2.mono HB1.out.size))
  have H02 : Hid (St (sk s.data.toList (j + 1) - 1) zero w2) := Lib.hid (HK.out _ _ _ _ _ _ H01.out HR1.out hk2)
  have HS1 : sk s.data.toList (j + 1) ≤ s.size := sk_le (S := s.data.toList) (by show j + 1 ≤ s.size; omega)
  have HS2 : j + 1 ≤ sk s.data.toList (j + 1) := sk_ge _ _
  have HS3 : Hid (isAt s.data.toList (j + 1) c = true → sk s.data.toList (j + 1) + 1 ≤ s.size) := Lib.hid (fun h => by
    have := bt_lt (S := s.data.toList) (k := sk s.data.toList (j + 1)) (by rw [isAt_iff.1 h]; exact hc)
    exact this)
  have HPN : Hid (isAt s.data.toList (j + 1) c = false → past s.data.toList (j + 1) c = sk s.data.toList (j + 1)) := Lib.hid past_not
  have HPA : Hid (isAt s.data.toList (j + 1) c = true → past s.data.toList (j + 1) c = sk s.data.toList (j + 1) + 1) := Lib.hid past_at
  generalize isAt s.data.toList (j + 1) c = I at *
  generalize past s.data.toList (j + 1) c = Q at *
  generalize sk s.data.toList (j + 1) = T at *
  clear HB1 H01 HR1 hk2 HT
  cases I
  · -- parts
    have e1 := (HPN.out rfl).symm
    subst e1
    have HL2 := Lib.hid (HL.out rfl)
    have HR2 := Lib.hid hr2
    clear hr2 HL HZ HPN HPA HS3
    have HF1 := HFF.out T zero w2 (by omega) HS1 H02.out HR2.out HB2.out
    cases hrd : rd T with
    | bad er p =>
      rw [hrd] at HF1
      have HFB := Lib.hid HF1
      have HRR : Hid (R = .bad er p) := Lib.hid (by rw [HL2.out]; exact lpR_bad hrd)
      clear HF1 hrd
      go_wp2_with (go_at_fn K; refine HFB.out.mono ?_; rintro e3 w3 ⟨hk3, he⟩; unfold flt at he; subst he)
      exact ⟨rfl, PtE.bad HRR.out hk3⟩
    | ok v k =>
      rw [hrd] at HF1
      have HFB := Lib.hid HF1
      have HLA : Hid (R = lpA rd put s.data.toList c s.data.toList.length k (put zero v)) := Lib.hid (by rw [HL2.out]; exact lpR_ok hrd)
      have HGK := HG.out T v k hrd
      clear HF1 hrd HL2
      go_wp2_with (go_at_fn K; refine HFB.out.mono ?_; rintro e3 w3 ⟨hk3, rfl, hs3, hr3⟩)
      have HK3 := Lib.hid hk3
      have HS3 := Lib.hid hs3
      have HR3 := Lib.hid hr3
      clear hk3 hs3 hr3 HR2 HB2 H02 HFB
      go_loopw [] (fun wr => ∃ (m k : Nat) (acc : β), j < k ∧ k ≤ s.size ∧ s.size ≤ m + k ∧ Hid (R = lpA rd put s.data.toList c m k acc) ∧ Hid (St k acc wr) ∧ Hid (Rd rb s k (d + 1) wr) ∧ Hid (Kb base.heap.size rb base wr)) (fun wr => s.size - atOf rb wr)
      case atStart => exact ⟨s.data.toList.length, k, put zero v, by omega, HGK.2, by rw [size_toList]; omega, HLA, HS3, HR3, HK3⟩
      case round =>
        obtain ⟨m, k2, acc, hjk, hk2, hmk, HA, HS4, HR4, HB4⟩ := hrel
        have HT4 := takes_any rb s k2 (d + 1) c wr HR4.out hk2 hs
        have HSK : sk s.data.toList k2 ≤ s.size := sk_le (S := s.data.toList) hk2
        have HSK2 : k2 ≤ sk s.data.toList k2 := sk_ge _ _
        have HN4 := fun W (h : Rd rb s (sk s.data.toList k2) (d + 1) W) => needs_any rb s (sk s.data.toList k2) (d + 1) 44 W h HSK hs
        rw [sk_sk, isAt_sk] at HN4
        cases hI : isAt s.data.toList k2 c with
        | true =>
          rw [hI, past_at hI] at HT4
          have HA2 := HA.out
          rw [lpA_at hI] at HA2
          have HAA := Lib.hid HA2
          have HTT := Lib.hid HT4
          clear HA HA2 HT4 HN4 hI
          generalize sk s.data.toList k2 = T2 at *
          go_wp2_with (go_at_call 126; refine HTT.out.mono ?_; rintro e w4 ⟨rfl, hr4, hk4⟩; have d2 := hr4.c2; have g2 := hr4.fz 2; have HR5 : Hid (Rd rb s (T2 + 1) d (w4.setCell ⟨rb, 2, none⟩ (.int .i64 d))) := Lib.hid (hr4.into d); have HB5 : Hid (Kb base.heap.size rb base (w4.setCell ⟨rb, 2, none⟩ (.int .i64 d))) := Lib.hid ((HB4.out.trans (hk4.mono HB4.out.size)).set 2 _); have HS5 : Hid (St (T2 + 1) acc (w4.setCell ⟨rb, 2, none⟩ (.int .i64 d))) := Lib.hid (HM.out _ _ _ _ (HK.out _ _ _ _ _ _ HS4.out HR4.out (hk4.set 2 _)) (by omega)))
          go_end0
          exact PtE.ok HAA.out HB5.out HS5.out HR5.out
        | false =>
          rw [hI, past_not hI] at HT4
          have HTT := Lib.hid HT4
          clear HT4
          cases hJ : isAt s.data.toList k2 44 with
          | false =>
            have HA2 := HA.out
            rw [lpA_bad hI hJ] at HA2
            have HAA := Lib.hid HA2
            have HNN : Hid (∀ W, Rd rb s (sk s.data.toList k2) (d + 1) W → Calls Tryz.prog 94 #[.pointer (some ⟨rb, 0, none⟩), .int .u8 44] W fun e w' => Kb W.heap.size rb W w' ∧ e = flt 1 (sk s.data.toList k2)) := Lib.hid (fun W h => (HN4 W h).mono (by
              rintro e w' ⟨h1, ⟨h2, -⟩ | ⟨-, h2⟩⟩
              · rw [hJ] at h2; cases h2
              · exact ⟨h1, h2⟩))
            clear HA HA2 HN4 hI hJ
            generalize sk s.data.toList k2 = T2 at *
            go_wp2_with (first
              | (go_at_call 126; refine HTT.out.mono ?_; rintro e w4 ⟨rfl, hr4, hk4⟩; have HB5 : Hid (Kb base.heap.size rb base w4) := Lib.hid (HB4.out.trans (hk4.mono HB4.out.size)); have HR5 := Lib.hid hr4)
              | (go_at_call 94; refine (HNN.out _ HR5.out).mono ?_; rintro e w5 ⟨hk5, he⟩; unfold flt at he; subst he))
            exact ⟨rfl, PtE.bad HAA.out (HB5.out.trans (hk5.mono HB5.out.size))⟩
          | true =>
            have HA2 := HA.out
            rw [lpA_more hI hJ] at HA2
            have hlt : sk s.data.toList k2 < s.size := bt_lt (S := s.data.toList) (k := sk s.data.toList k2) (by rw [isAt_iff.1 hJ]; decide)
            have HNN : Hid (∀ W, Rd rb s (sk s.data.toList k2) (d + 1) W → Calls Tryz.prog 94 #[.pointer (some ⟨rb, 0, none⟩), .int .u8 44] W fun e w' => Kb W.heap.size rb W w' ∧ e = .returned (.tuple #[]) ∧ Rd rb s (sk s.data.toList k2 + 1) (d + 1) w') := Lib.hid (fun W h => (HN4 W h).mono (by
              rintro e w' ⟨h1, ⟨-, h2⟩ | ⟨h2, -⟩⟩
              · exact ⟨h1, h2⟩
              · rw [hJ] at h2; cases h2))
            obtain ⟨m2, rfl⟩ : ∃ m2, m = m2 + 1 := ⟨m - 1, by omega⟩
            have HAA := Lib.hid HA2
            clear HA HA2 HN4 hI hJ
            generalize sk s.data.toList k2 = T2 at *
            have HF5 : Hid (∀ W W0, Kb base.heap.size rb base W0 → Kb wr.heap.size rb wr W0 → Rd rb s T2 (d + 1) W0 → Kb W0.heap.size rb W0 W → Rd rb s (T2 + 1) (d + 1) W → Calls Tryz.prog K cap W (PtE rb s (d + 1) St base (mapR (put acc) (rd (T2 + 1))))) := Lib.hid (fun W W0 h1 h2 h3 h4 h5 =>
              HFF.out (T2 + 1) acc W (by omega) (by omega) (HM.out _ _ _ _ (HK.out _ _ _ _ _ _ (HK.out _ _ _ _ _ _ HS4.out HR4.out h2) h3 h4) (by omega)) h5 (h1.trans (h4.mono h1.size)))
            cases hrd : rd (T2 + 1) with
            | bad er p =>
              rw [hrd] at HF5
              have HRR : Hid (R = .bad er p) := Lib.hid (by rw [HAA.out]; exact lpR_bad hrd)
              clear hrd
              go_wp2_with (first
                | (go_at_call 126; refine HTT.out.mono ?_; rintro e w4 ⟨rfl, hr4, hk4⟩; have HB5 : Hid (Kb base.heap.size rb base w4) := Lib.hid (HB4.out.trans (hk4.mono HB4.out.size)); have HR5 := Lib.hid hr4; have HK5 := Lib.hid hk4)
                | (go_at_call 94; refine (HNN.out _ HR5.out).mono ?_; rintro e w5 ⟨hk5, rfl, hr5⟩; have HK6 := Lib.hid hk5; have HR6 := Lib.hid hr5)
                | (go_at_fn K; refine (HF5.out _ _ HB5.out HK5.out HR5.out HK6.out HR6.out).mono ?_; rintro e3 w6 ⟨hk6, he⟩; unfold flt at he; subst he))
              exact ⟨rfl, PtE.bad HRR.out hk6⟩
            | ok v k3 =>
              rw [hrd] at HF5
              have HRR : Hid (R = lpA rd put s.data.toList c m2 k3 (put acc v)) := Lib.hid (by rw [HAA.out]; exact lpR_ok hrd)
              have hgk := HG.out _ v k3 hrd
              clear hrd
              go_wp2_with (first
                | (go_at_call 126; refine HTT.out.mono ?_; rintro e w4 ⟨rfl, hr4, hk4⟩; have HB5 : Hid (Kb base.heap.size rb base w4) := Lib.hid (HB4.out.trans (hk4.mono HB4.out.size)); have HR5 := Lib.hid hr4; have HK5 := Lib.hid hk4)
                | (go_at_call 94; refine (HNN.out _ HR5.out).mono ?_; rintro e w5 ⟨hk5, rfl, hr5⟩; have HK6 := Lib.hid hk5; have HR6 := Lib.hid hr5)
                | (go_at_fn K; refine (HF5.out _ _ HB5.out HK5.out HR5.out HK6.out HR6.out).mono ?_; rintro e3 w6 ⟨hk6, rfl, hs6, hr6⟩; have HK7 := Lib.hid hk6; have HS7 := Lib.hid hs6; have HR7 := Lib.hid hr6))
              refine ⟨⟨m2, k3, put acc v, by omega, hgk.2, by omega, HRR, HS7, HR7, HK7⟩, ?_⟩
              rw [HR7.out.atOf, HR4.out.atOf]
              omega
  · have e1 := HPA.out rfl
    subst e1
    have HZ2 := Lib.hid (HZ.out rfl)
    have c2' := hr2.c2
    have f2' := hr2.fz 2
    have HR2 := Lib.hid hr2
    have HR3 : Hid (Rd rb s (T + 1) d (w2.setCell ⟨rb, 2, none⟩ (.int .i64 d))) := Lib.hid (hr2.into d)
    have HB3 : Hid (Kb base.heap.size rb base (w2.setCell ⟨rb, 2, none⟩ (.int .i64 d))) := Lib.hid (HB2.out.set 2 _)
    have H03 : Hid (St (T + 1) zero (w2.setCell ⟨rb, 2, none⟩ (.int .i64 d))) := Lib.hid (HM.out _ _ _ _ (HK.out _ _ _ _ _ _ H02.out hr2 ((Kb.refl _ _ _).set 2 _)) (by omega))
    clear hr2 HL HZ HPN HPA HS3
    go_wp2_with fail
    go_end0
    exact PtE.ok HZ2.out HB3.out H03.out HR3.out
end Go.Proofs.YtafbojiojeemoaaGreatDoor

/-
  What the reader's list is: what its closure gathers.
-/
namespace Go.Proofs.YtafbojiojeemoaaGreatDoor
open Go.RowKit Np Rw Vp Up Qp Tp

/-- A row of the call's own lies in no block of other elements. -/
theorem Own.ne {α : Type} {enc : α → List Value} {sz E base b T : Nat} {cs : Array Value} {fz : Nat × Nat} {w : World} {x : Value} {l : List α} (ho : Own enc sz E base w x l) (h : w.heap[b]? = some (.cells cs T fz)) (hE : E ≠ T) : x.ownBlock ≠ some b := by
  rcases ho.2 with ⟨rfl, _⟩ | ⟨g, cap, cur, rfl, _, hh, _⟩
  · intro e; cases e
  · intro e
    have e1 : g = b := by simpa [Value.ownBlock] using e
    subst e1
    rw [h] at hh
    injection hh with hh
    injection hh with _ h2 _
    exact hE h2.symm
theorem Elems.box {base b T : Nat} {w : World} {v : Value} {zs : List (Option Addr × Nat × Nat)} {L : List (List Nd)} (h : Elems base w zs L) (hb : Box b T v w) (hT : 35 ≠ T) (u : Value) : Elems base (w.setCell ⟨b, 0, none⟩ u) zs L :=
  ⟨h.1, fun k z l h1 h2 => Own.box (h.2 k z l h1 h2) hb hT u⟩
theorem Elems.mono {b b' : Nat} {w : World} {zs : List (Option Addr × Nat × Nat)} {L : List (List Nd)} (h : Elems b w zs L) (hb : b' ≤ b) : Elems b' w zs L := ⟨h.1, fun k z l h1 h2 => (h.2 k z l h1 h2).mono hb⟩
theorem Elems.alloc {b : Nat} {w : World} {zs : List (Option Addr × Nat × Nat)} {L : List (List Nd)} (h : Elems b w zs L) (o : Obj) : Elems b (w.alloc o) zs L := ⟨h.1, fun k z l h1 h2 => (h.2 k z l h1 h2).alloc o⟩
theorem Box.apart {b1 b2 T1 T2 : Nat} {v1 v2 : Value} {w : World} (h1 : Box b1 T1 v1 w) (h2 : Box b2 T2 v2 w) (hT : T1 ≠ T2) : b1 ≠ b2 := by
  rintro rfl
  unfold Box at h1 h2
  rw [h1] at h2
  injection h2 with h
  injection h with _ h _
  exact hT h

/-- What a list has gathered. -/
structure LiSt (b0 b1 b2 rb j i : Nat) (acc : List (List Nd)) (W : World) : Prop where
  few : LiP j (i + 1) acc
  bx : Box b1 91 (.pointer (some ⟨rb, 0, none⟩)) W
  row : ∃ v zs, Box b2 41 v W ∧ Own slc 1 24 b0 W v zs ∧ Elems b0 W zs acc
theorem LiSt.kb {b0 b1 b2 rb j i k x : Nat} {s : ByteArray} {acc : List (List Nd)} {W W' : World} (h : LiSt b0 b1 b2 rb j i acc W) (hr : Rd rb s k x W) (hk : Kb W.heap.size rb W W') : LiSt b0 b1 b2 rb j i acc W' := by
  obtain ⟨h1, h2, v, zs, h3, h4, h5⟩ := h
  exact ⟨h1, h2.kb hr hk, v, zs, h3.kb hr hk, h4.kb (by decide) hr hk, h5.kb hr hk⟩
theorem LiSt.up {b0 b1 b2 rb j i k : Nat} {acc : List (List Nd)} {W : World} (h : LiSt b0 b1 b2 rb j i acc W) (hk : i ≤ k) : LiSt b0 b1 b2 rb j k acc W := ⟨h.few.up (by omega), h.bx, h.row⟩

section
variable {b0 b1 b2 rb j k d m c g cap : Nat} {s : ByteArray} {acc : List (List Nd)} {vv : List Nd} {zs : List (Option Addr × Nat × Nat)} {v : Value} {A : Option Addr} {base W2 w3 : World}
/-- Behind the append: what the store wants. -/
theorem li_mid {y : Value} {T1 : Nat} (hb2 : Box b2 T1 v W2) (ho : Own slc 1 24 b0 W2 v zs) (hT : 24 ≠ T1) (hg : (W2.alloc (.cells #[y] 24)).grownBy w3 v.ownBlock) : Box b2 T1 v w3 :=
  (hb2.alloc _).grown hg (hb2.own hT ho)
theorem li_close (hr2 : Rd rb s k d W2) (hb1 : Box b1 91 (.pointer (some ⟨rb, 0, none⟩)) W2) (hb2 : Box b2 41 v W2) (ho : Own slc 1 24 b0 W2 v zs) (he : Elems b0 W2 zs acc) (hV : OwnN b0 W2 (.slice A m c) vv)
    (hkb : Kb base.heap.size rb base W2) (hb0 : base.heap.size ≤ b0) (hbb : base.heap.size ≤ b2) 
    (hown : w3.ownsRow b0 24 1 (.slice (some ⟨g, 0, none⟩) (zs.length + 1) cap) (zs.length + 1) (zs.flatMap slc ++ [.slice A m c])) (hg : (W2.alloc (.cells #[.slice A m c] 24)).grownBy w3 v.ownBlock) (hP : LiP j (k + 1) (Tp.snoc acc vv)) :
    PtE rb s d (LiSt b0 b1 b2 rb j) base (.ok (Tp.snoc acc vv) k) (.returned (.tuple #[])) (w3.setCell ⟨b2, 0, none⟩ (.slice (some ⟨g, 0, none⟩) (zs.length + 1) cap)) := by
  have hne := hb1.apart hb2 (by decide)
  have hnr := hb2.ne_rd hr2
  have hb2' := li_mid hb2 ho (by decide) hg
  have hb1'' : Box b1 91 (.pointer (some ⟨rb, 0, none⟩)) w3 := (hb1.alloc _).grown hg (hb1.own (by decide) ho)
  have hr3 : Rd rb s k d w3 := (hr2.alloc _).grown hg (ho.ne hr2 (by decide))
  have ho3 : Own slc 1 24 b0 w3 (.slice (some ⟨g, 0, none⟩) (zs.length + 1) cap) (zs ++ [(A, m, c)]) := by
    unfold Own
    rw [List.length_append, List.length_singleton, List.flatMap_append]
    exact hown
  have he3 : Elems b0 w3 zs acc := (he.alloc _).asideT (ho.alloc _) hg
  have hV3 : OwnN b0 w3 (.slice A m c) vv := Own.aside (hV.alloc _) (ho.alloc _) (by decide) hg
  have hk3 : Kb base.heap.size rb base w3 := (hkb.alloc hkb.size _).grown hg (by have := hkb.size; simp; omega) (fun k' hk' => by
    have := (World.ownsRow.lt ho k' hk').1; omega)
  refine PtE.ok rfl ?_ ⟨hP, ?_, _, zs ++ [(A, m, c)], hb2'.set _, ho3.box hb2' (by decide) _, ?_⟩ (hr3.other hnr _)
  · exact hk3.setHigh hbb _
  · exact hb1''.other (Ne.symm hne) _
  · exact (he3.snoc hV3).box hb2' (by decide) _
end

set_option maxRecDepth 100000 in
set_option maxHeartbeats 4000000 in
theorem list1_any (rd : Nat → Rs (List Nd)) (base : World) (rb : Nat) (s : ByteArray) (b0 b1 b2 j i d : Nat) (acc : List (List Nd)) (W : World) (hs : s.size ≤ 400000)
    (hSt : LiSt b0 b1 b2 rb j (i - 1) acc W) (hr : Rd rb s i d W) (hb : Kb base.heap.size rb base W) (hb0 : base.heap.size ≤ b0) (hb2 : base.heap.size ≤ b2) (hbs : b0 ≤ W.heap.size) (hi : 1 ≤ i) (his : i ≤ s.size)
    (hG : ∀ v k, rd i = .ok v k → i < k ∧ k ≤ s.size ∧ 1 ≤ v.length ∧ 2 * v.length + i ≤ k + 1)
    (HV : ∀ m, Calls Tryz.prog 30 #[.pointer (some ⟨rb, 0, none⟩)] (W.drewN m) (VlE rb s d (W.drewN m) (rd i))) :
    Calls Tryz.prog 91 #[.pointer (some ⟨b2, 0, none⟩), .pointer (some ⟨b1, 0, none⟩)] W (PtE rb s d (LiSt b0 b1 b2 rb j) base (mapR (Tp.snoc acc) (rd i))) := by
  obtain ⟨hP, hx1, v, zs, hx2, ho, he⟩ := hSt
  obtain ⟨iv, hiv, hz0, hz1, hz2⟩ := info_parts val_info
  have a1 := hx1.c
  have a2 := hx2.c
  have hzl : zs.length ≤ 200000 := by
    have := hP.few
    have := he.1
    omega
  have HV1 := HV 1
  cases hrd : rd i with
  | bad er p =>
    rw [hrd] at HV1
    have HVB : Hid (Calls Tryz.prog 30 #[.pointer (some ⟨rb, 0, none⟩)] W.drew (VlE rb s d W.drew (.bad er p))) := Lib.hid HV1
    have HB := Lib.hid hb
    clear HV HV1 hG hrd ho he hx1 hx2 hP hb
    go_enter Tryz.func91, Tryz.ntmps91
    go_upto_region 0 with fail
    refine wp_region_any (by kernel_rfl) ?_
    try (change wpAny _ _ _ _ _ _ _ (World.drew _))
    refine wpAny_ready (rs := [0, 1]) (by kernel_rfl) (by simp) ?_
    refine AllReady.cons rfl (fun K hK => ?_) (AllReady.cons rfl (fun K hK => ?_) AllReady.nil)
    · go_simp
      refine hK _ _ ?_
      clear hK K
      refine wpAny_ready (rs := [1]) (by kernel_rfl) (by simp) ?_
      refine AllReady.cons rfl (fun K hK => ?_) AllReady.nil
      go_simp
      refine hK _ _ ?_
      clear hK K
      refine wpAny_ready (rs := [2]) (by kernel_rfl) (by simp) ?_
      refine AllReady.cons rfl (fun K hK => ?_) AllReady.nil
      go_simp
      go_wp2_with (go_at_call 30; refine HVB.out.mono ?_; rintro e w2 ⟨hk2, he⟩; unfold flt at he; subst he)
      exact ⟨rfl, PtE.bad rfl (HB.out.drew.trans (hk2.mono HB.out.size))⟩
    · go_simp
      refine hK _ _ ?_
      clear hK K
      refine wpAny_ready (rs := [0, 2]) (by kernel_rfl) (by simp) ?_
      refine AllReady.cons rfl (fun K hK => ?_) (AllReady.cons rfl (fun K hK => ?_) AllReady.nil)
      · go_simp
        refine hK _ _ ?_
        clear hK K
        refine wpAny_ready (rs := [2]) (by kernel_rfl) (by simp) ?_
        refine AllReady.cons rfl (fun K hK => ?_) AllReady.nil
        go_simp
        go_wp2_with (go_at_call 30; refine HVB.out.mono ?_; rintro e w2 ⟨hk2, he⟩; unfold flt at he; subst he)
        exact ⟨rfl, PtE.bad rfl (HB.out.drew.trans (hk2.mono HB.out.size))⟩
      · go_simp
        go_wp2_with (go_at_call 30; refine HVB.out.mono ?_; rintro e w2 ⟨hk2, he⟩; unfold flt at he; subst he)
        exact ⟨rfl, PtE.bad rfl (HB.out.drew.trans (hk2.mono HB.out.size))⟩
  | ok vv k =>
    rw [hrd] at HV1
    have hgk := hG vv k hrd
    have HVO : Hid (Calls Tryz.prog 30 #[.pointer (some ⟨rb, 0, none⟩)] W.drew (fun e w2 => ∃ (A : Option Addr) (m c : Nat), e = .returned (.slice A m c) ∧ Hid (OwnN b0 w2 (.slice A m c) vv) ∧ Hid (Rd rb s k d w2) ∧ Hid (Kb W.heap.size rb W w2))) := Lib.hid (HV1.mono (by
      rintro e w2 ⟨hk2, V, rfl, hV, hr2⟩
      obtain ⟨A, c, rfl, -⟩ := hV.form
      exact ⟨A, vv.length, c, rfl, Lib.hid (hV.mono hbs), Lib.hid hr2, Lib.hid (((Kb.refl _ _ W).drew).trans hk2)⟩))
    have HP : Hid (LiP j (k + 1) (Tp.snoc acc vv)) := Lib.hid (LiP.snoc (i := i) (k := k) (by rw [show i - 1 + 1 = i by omega] at hP; exact hP) hgk.2.2.1 (by omega) (by omega))
    have HR := Lib.hid hr
    have HB := Lib.hid hb
    have HO := Lib.hid ho
    have HE := Lib.hid he
    have HX1 := Lib.hid hx1
    have HX2 := Lib.hid hx2
    clear HV HV1 hG hrd ho he hx1 hx2 hP hb hr
    go_enter Tryz.func91, Tryz.ntmps91
    go_upto_region 0 with fail
    go_region_law (first
      | (refine step_append_lies _ (by rfl) _ _ _ (by rfl) b0 _ iv (.slice none 0 0) 1 24 Tryz.underlying41 hiv hz0 hz1 hz2 (by decide) (by decide) v zs.length (zs.flatMap slc) (by rfl) (HO2.out.alloc _) ⟨w2.heap.size, 0, none⟩ 1 1 [.slice A m c] (by rfl) (by rfl) (World.news_of_block (heap_alloc_new w2 _)) (by intro u hu; simp at hu; subst hu; rfl) (by decide) (by unfold maxLen; omega) (by omega) (by have := HK2.out.size; simp; omega) (w2.heap.size + 1) (by simp) ?_; intro g cap w3 hown hgrow hat hlt; have hx3 := li_mid HX3.out HO2.out (by decide) hgrow; have e3 := hx3.c; have g3 := hx3.f; have HX4 := Lib.hid hx3; have HOW := Lib.hid hown; have HGR := Lib.hid hgrow; clear hx3 hown hgrow)
      | (go_simp; go_wp2_with (go_at_call 30; refine HVO.out.mono ?_; rintro e w2 ⟨A, m, c, rfl, HV2, HR2, HK2⟩; have x3 := HX2.out.kb HR.out HK2.out; have c3 := x3.c; have f3 := x3.f; have HX3 := Lib.hid x3; have hl3 := x3.lt; have hn3 : ¬ b2 = w2.heap.size := Nat.ne_of_lt x3.lt; have HO2 := Lib.hid (HO.out.kb (by decide) HR.out HK2.out); clear x3)))
    all_goals go_end0
    all_goals exact li_close HR2.out (HX1.out.kb HR.out HK2.out) HX3.out HO2.out (HE.out.kb HR.out HK2.out) HV2.out (HB.out.trans (HK2.out.mono HB.out.size)) hb0 hb2 HOW.out HGR.out HP.out
end Go.Proofs.YtafbojiojeemoaaGreatDoor

/-
  What the reader's list is.
-/
namespace Go.Proofs.YtafbojiojeemoaaGreatDoor
open Go.RowKit Np Rw Vp Up Qp Tp

set_option maxRecDepth 100000 in
set_option maxHeartbeats 4000000 in
theorem rdList_any (rd : Nat → Rs (List Nd)) (rb : Nat) (s : ByteArray) (j d : Nat) (w : World) (hr : Rd rb s j d w) (hd : d < 128) (hj : j < s.size) (hs : s.size ≤ 400000) (hG : Goes s.data.toList rd)
    (HV : ∀ i W, i ≤ s.size → Rd rb s i (d + 1) W → Kb w.heap.size rb w W → Calls Tryz.prog 30 #[.pointer (some ⟨rb, 0, none⟩)] W (VlE rb s (d + 1) W (rd i))) :
    Calls Tryz.prog 54 #[.pointer (some ⟨rb, 0, none⟩)] w (VlE rb s d w (mapR liV (ptR rd Tp.snoc [] s.data.toList 93 j))) := by
  have eK : ∀ args w, (callFunc 91 args).run Tryz.prog w = .ok (.enter 91 args) w := enters_of Tryz.func91 (by kernel_rfl) rfl
  have hG' : ∀ i v k, rd i = .ok v k → i < k ∧ k ≤ s.size ∧ 1 ≤ v.length ∧ 2 * v.length + i ≤ k + 1 := fun i v k h => hG i v k h
  have hmf : ∀ (fn : Fn) (first cap : Array Value) (w : World), (Instr.makeFunc fn first cap).run Tryz.prog w = .ok (.func fn first cap) w := fun _ _ _ _ => rfl
  -- the two boxes
  have HW2 : Hid (Rd rb s j d ((w.alloc (.cells #[.pointer (some ⟨rb, 0, none⟩)] 91)).alloc (.cells #[.slice none 0 0] 41)) ∧ Kb w.heap.size rb w ((w.alloc (.cells #[.pointer (some ⟨rb, 0, none⟩)] 91)).alloc (.cells #[.slice none 0 0] 41)) ∧ LiSt w.heap.size w.heap.size (w.heap.size + 1) rb j j [] ((w.alloc (.cells #[.pointer (some ⟨rb, 0, none⟩)] 91)).alloc (.cells #[.slice none 0 0] 41))) := Lib.hid (by
    refine ⟨(hr.alloc _).alloc _, ((Kb.refl _ _ _).alloc (Nat.le_refl _) _).alloc (by simp) _, LiP.zero (by omega), (Box.new w _ _).alloc _, .slice none 0 0, [], ?_, Own.nil _, rfl, fun k z l h => by simp at h⟩
    have := Box.new (w.alloc (.cells #[.pointer (some ⟨rb, 0, none⟩)] 91)) 41 (.slice none 0 0)
    simpa using this)
  have HPT : Hid (∀ W, Rd rb s j d W → Kb w.heap.size rb w W → LiSt w.heap.size w.heap.size (w.heap.size + 1) rb j j [] W → Calls Tryz.prog 90 #[.pointer (some ⟨rb, 0, none⟩), .int .u8 93, .func (.func 91) #[] #[.pointer (some ⟨w.heap.size + 1, 0, none⟩), .pointer (some ⟨w.heap.size, 0, none⟩)]] W (PtE rb s d (LiSt w.heap.size w.heap.size (w.heap.size + 1) rb j) w (ptR rd Tp.snoc [] s.data.toList 93 j))) := Lib.hid (fun W h1 h2 h3 =>
    parts_any 91 _ 93 rd Tp.snoc [] (LiSt w.heap.size w.heap.size (w.heap.size + 1) rb j) w rb s j d W eK (by decide) hd hj hs h1 h2 h3
      (fun i acc W W' k x a b c => a.kb b c) (fun i k acc W a b => a.up b) (fun i v k h => ⟨(hG' i v k h).1, (hG' i v k h).2.1⟩)
      (fun i acc W a b c x y => list1_any rd w rb s w.heap.size w.heap.size (w.heap.size + 1) j i (d + 1) acc W hs c x y (Nat.le_refl _) (by omega) y.size (by omega) b (fun v k h => hG' i v k h) (fun m => HV i (W.drewN m) b (x.drewN m) (y.drewN m))))
  have HPE : Hid (∀ p acc, ptR rd Tp.snoc [] s.data.toList 93 j = .ok acc p → p ≤ s.size) := Lib.hid (fun p acc h => (ptR_inv (by decide) (LiP j) (liP_step hG j) hj (fun k hk => LiP.zero hk) h).2.1)
  clear HV hG hG' eK hr
  generalize ptR rd Tp.snoc [] s.data.toList 93 j = R at *
  go_enter Tryz.func54, Tryz.ntmps54
  go_wp2_with fail
  cases R with
  | bad er p =>
    refine (HPT.out _ HW2.out.1 HW2.out.2.1 HW2.out.2.2).mono ?_
    rintro e w3 ⟨hk3, he⟩
    unfold flt at he
    subst he
    go_wp2_with fail
    exact ⟨rfl, VlE.bad rfl hk3⟩
  | ok acc p =>
    refine (HPT.out _ HW2.out.1 HW2.out.2.1 HW2.out.2.2).mono ?_
    rintro e w3 ⟨hk3, rfl, ⟨hP, hx1, v, zs, hx2, ho, he⟩, hr3⟩
    have c3 := hx2.c
    have hps : p ≤ s.size := HPE.out p acc rfl
    have hfew := hP.few
    have HL := Lib.hid (list_any v acc w3 (he.vls (ho.row slc_len)) (by omega) (by omega))
    have HK := Lib.hid hk3
    have HR := Lib.hid hr3
    clear HPT HW2 hk3 hr3 ho he hP hx1 hx2 hfew
    go_wp2_with (go_at_call 92; refine HL.out.mono ?_; rintro e w4 ⟨V, rfl, hV, hb4⟩)
    go_ret
    exact VlE.ok (v := liV acc) rfl (HK.out.trans ((Kb.of hb4).mono HK.out.size)) (hV.mono HK.out.size) (HR.out.below hb4 HR.out.lt)
end Go.Proofs.YtafbojiojeemoaaGreatDoor

/-
  Words for memory: what an object has gathered: names, parts, and where each name stands.
-/
namespace Go.Proofs.YtafbojiojeemoaaGreatDoor
open Go.RowKit Go.Maps Np Rw Vp Up Qp Tp

theorem lawS : Keyed Tryz.prog 9 := string_keyed Tryz.underlying9
theorem zeroS (w : World) : (zeroValue 3).run Tryz.prog w = .ok (.int .i64 0) w := by kernel_rfl
abbrev keyT (r : List UInt8) : Lit := .string r
theorem keyT_ne {a b : List UInt8} (h : a ≠ b) : keyT a ≠ keyT b := fun e => h (by injection e)
theorem keyT_ok (r : List UInt8) : WideAt.IsKeyLit (keyT r) := by unfold keyT WideAt.IsKeyLit; trivial
/-- A map, read as a function of strings. -/
def SVw (D : DataW Unit) (f : List UInt8 → Option Int) : Prop := IsMap D ∧ ∀ r, Maps.has D (keyT r) = (f r).isSome ∧ ∀ v, f r = some v → D.atKey (keyT r) (.lit (.int .i64 0)) = .lit (.int .i64 v)
theorem SVw.hit {D : DataW Unit} {f : List UInt8 → Option Int} (h : SVw D f) {r : List UInt8} {v c : Int} (hf : f r = some v) (hat : D.atKey (keyT r) (.lit (.int .i64 0)) = .lit (.int .i64 c)) : c = v := by
  have := (h.2 r).2 v hf
  rw [this] at hat
  injection hat with hat
  injection hat with _ hat
  exact hat.symm
def upS (f : List UInt8 → Option Int) (k : List UInt8) (v : Int) (r : List UInt8) : Option Int := if r = k then some v else f r
theorem SVw.put {D : DataW Unit} {f : List UInt8 → Option Int} (h : SVw D f) (k : List UInt8) (v : Int) : SVw (D.put (keyT k) (.lit (.int .i64 v))) (upS f k v) := by
  refine ⟨h.1.put _ _, fun r => ?_⟩
  by_cases e : r = k
  · subst e
    unfold upS
    rw [if_pos rfl]
    refine ⟨by rw [has_put_same h.1 (keyT_ok _)]; rfl, fun x hx => ?_⟩
    injection hx with hx
    rw [atKey_put_same h.1 (keyT_ok _), hx]
  · unfold upS
    rw [if_neg e]
    refine ⟨by rw [has_put_other (keyT_ne e)]; exact (h.2 r).1, fun x hx => ?_⟩
    rw [atKey_put_other (keyT_ne e)]
    exact (h.2 r).2 x hx
def SMap (w : World) (b n : Nat) (f : List UInt8 → Option Int) : Prop := ∃ D : DataW Unit, w.ownsMap Tryz.prog 9 (plainElem Tryz.prog 3) b n D ∧ SVw D f
/-- Where a name stands. -/
def ix (ns : List (List UInt8)) (nm : List UInt8) : Option Int := if nm ∈ ns then some (ns.idxOf nm : Nat) else none
theorem ix_snoc {ns : List (List UInt8)} {nm : List UInt8} (h : nm ∉ ns) : upS (ix ns) nm (ns.length : Nat) = ix (ns ++ [nm]) := by
  funext r
  unfold upS ix
  by_cases e : r = nm
  · subst e
    rw [if_pos rfl, if_pos (by simp), List.idxOf_append, if_neg h]
    simp
  · rw [if_neg e]
    by_cases hr : r ∈ ns
    · rw [if_pos hr, if_pos (by simp [hr]), List.idxOf_append, if_pos hr]
    · rw [if_neg hr, if_neg (by simp [hr, e])]

section
variable {α β : Type} {e1 : α → List Value} {e2 : β → List Value} {s1 s2 E1 E2 b1 b2 : Nat} {w w' : World} {v : Value} {l : List α}
theorem keptT (ho : Own e1 s1 E1 b1 w v l) (hg : w.grownBy w' v.ownBlock) {b T : Nat} {cs : Array Value} {fz : Nat × Nat} (hb : w.heap[b]? = some (.cells cs T fz)) (hT : E1 ≠ T) : w'.heap[b]? = some (.cells cs T fz) :=
  (hg.block b (Array.getElem?_eq_some_iff.1 hb).1 (Ne.symm (ho.ne hb hT))).trans hb
theorem Own.ne_map (ho : Own e1 s1 E1 b1 w v l) {b : Nat} {es : Array MapEntry} {clock : Nat} (h : w.heap[b]? = some (.map es clock)) : v.ownBlock ≠ some b := by
  rcases ho.2 with ⟨rfl, _⟩ | ⟨g, cap, cur, rfl, _, hh, _⟩
  · intro e; cases e
  · intro e
    have e1 : g = b := by simpa [Value.ownBlock] using e
    subst e1
    rw [h] at hh
    cases hh
theorem SMap.aside {b n : Nat} {f : List UInt8 → Option Int} (h : SMap w b n f) (ho : Own e1 s1 E1 b1 w v l) (hg : w.grownBy w' v.ownBlock) : SMap w' b n f := by
  obtain ⟨D, hD, hV⟩ := h
  have hD0 := hD
  obtain ⟨es, clock, hb, _⟩ := hD0
  exact ⟨D, hD.kept hg (Ne.symm (ho.ne_map hb)), hV⟩
theorem SMap.alloc {b n : Nat} {f : List UInt8 → Option Int} (h : SMap w b n f) (o : Obj) : SMap (w.alloc o) b n f := by
  obtain ⟨D, hD, hV⟩ := h
  exact ⟨D, hD.alloc o, hV⟩
theorem SMap.blk {b n : Nat} {f : List UInt8 → Option Int} (h : SMap w b n f) : ∃ es clock, w.heap[b]? = some (.map es clock) := by
  obtain ⟨D, ⟨es, clock, hb, _⟩, _⟩ := h
  exact ⟨es, clock, hb⟩
theorem SMap.same {b n : Nat} {f : List UInt8 → Option Int} (h : SMap w b n f) (hk : w'.heap[b]? = w.heap[b]?) : SMap w' b n f := by
  obtain ⟨D, ⟨es, clock, hb, r⟩, hV⟩ := h
  exact ⟨D, ⟨es, clock, hk.trans hb, r⟩, hV⟩
theorem SMap.cell {b n : Nat} {f : List UInt8 → Option Int} (h : SMap w b n f) {p : Addr} (hp : p.block ≠ b) (u : Value) : SMap (w.setCell p u) b n f := h.same (Below.heap_setCell w p u b (Ne.symm hp))
theorem SMap.ne {b n k : Nat} {f : List UInt8 → Option Int} (h : SMap w b n f) {cs : Array Value} {T : Nat} {fz : Nat × Nat} (hb : w.heap[k]? = some (.cells cs T fz)) : k ≠ b := by
  obtain ⟨es, clock, h1⟩ := h.blk
  rintro rfl
  rw [h1] at hb; cases hb
/-- A map is written: nothing else turns. -/
theorem kept_map {b : Nat} {es : Array MapEntry} {clock : Nat} (hm : w.heap[b]? = some (.map es clock)) (hg : w.grownBy w' (some b)) {k T : Nat} {cs : Array Value} {fz : Nat × Nat} (hb : w.heap[k]? = some (.cells cs T fz)) : w'.heap[k]? = some (.cells cs T fz) :=
  (hg.block k (Array.getElem?_eq_some_iff.1 hb).1 (fun e => by injection e with e; subst e; rw [hm] at hb; cases hb)).trans hb
theorem Own.map {b : Nat} {es : Array MapEntry} {clock : Nat} (ho : Own e1 s1 E1 b1 w v l) (hm : w.heap[b]? = some (.map es clock)) (hg : w.grownBy w' (some b)) : Own e1 s1 E1 b1 w' v l :=
  World.ownsRow.kept ho hg (by
    rcases hv : v.ownBlock with _ | g
    · exact .inl rfl
    · exact .inr (by rw [← hv]; exact ho.ne_map hm))
end

/-- What an object has gathered: the boxes hold these; the rows are these. -/
structure Ob0 (b0 b1 bN bL bP bm n rb : Nat) (uN uL : Value) (f : List UInt8 → Option Int) (X : World) (vN : Value) (ns : List (List UInt8)) (vL : Value) (zs : List (Option Addr × Nat × Nat)) (L : List (List Nd)) : Prop where
  x1 : Box b1 91 (.pointer (some ⟨rb, 0, none⟩)) X
  xN : Box bN 40 uN X
  xL : Box bL 41 uL X
  xP : Box bP 115 (.map (some bm)) X
  map : SMap X bm n f
  oN : Own stc 1 9 b0 X vN ns
  oL : Own slc 1 24 b0 X vL zs
  eL : Elems b0 X zs L
section
variable {b0 b1 bN bL bP bm n rb : Nat} {uN uL : Value} {f : List UInt8 → Option Int} {X X' : World} {vN : Value} {ns : List (List UInt8)} {vL : Value} {zs : List (Option Addr × Nat × Nat)} {L : List (List Nd)}
theorem Ob0.kb {s : ByteArray} {k d : Nat} (h : Ob0 b0 b1 bN bL bP bm n rb uN uL f X vN ns vL zs L) (hr : Rd rb s k d X) (hk : Kb X.heap.size rb X X') : Ob0 b0 b1 bN bL bP bm n rb uN uL f X' vN ns vL zs L := by
  obtain ⟨h1, h2, h3, h4, h5, h6, h7, h8⟩ := h
  obtain ⟨es, clock, hm⟩ := h5.blk
  refine ⟨h1.kb hr hk, h2.kb hr hk, h3.kb hr hk, h4.kb hr hk, h5.same (hk.block bm (Array.getElem?_eq_some_iff.1 hm).1 (fun e => ?_)), h6.kb (by decide) hr hk, h7.kb (by decide) hr hk, h8.kb hr hk⟩
  subst e
  unfold Rd at hr
  rw [hm] at hr; cases hr
theorem Ob0.alloc (h : Ob0 b0 b1 bN bL bP bm n rb uN uL f X vN ns vL zs L) (o : Obj) : Ob0 b0 b1 bN bL bP bm n rb uN uL f (X.alloc o) vN ns vL zs L :=
  ⟨h.x1.alloc o, h.xN.alloc o, h.xL.alloc o, h.xP.alloc o, h.map.alloc o, Own.alloc h.oN o, Own.alloc h.oL o, h.eL.alloc o⟩
theorem Ob0.drew (h : Ob0 b0 b1 bN bL bP bm n rb uN uL f X vN ns vL zs L) : Ob0 b0 b1 bN bL bP bm n rb uN uL f X.drew vN ns vL zs L := ⟨h.x1, h.xN, h.xL, h.xP, h.map, h.oN, h.oL, h.eL⟩
theorem Ob0.appN (h : Ob0 b0 b1 bN bL bP bm n rb uN uL f X vN ns vL zs L) {g cap : Nat} {nm : List UInt8} (ho : X'.ownsRow b0 9 1 (.slice (some ⟨g, 0, none⟩) (ns.length + 1) cap) (ns.length + 1) (ns.flatMap stc ++ [.string ⟨nm.toArray⟩])) (hg : X.grownBy X' vN.ownBlock) :
    Ob0 b0 b1 bN bL bP bm n rb uN uL f X' (.slice (some ⟨g, 0, none⟩) (ns.length + 1) cap) (ns ++ [nm]) vL zs L := by
  refine ⟨keptT h.oN hg h.x1 (by decide), keptT h.oN hg h.xN (by decide), keptT h.oN hg h.xL (by decide), keptT h.oN hg h.xP (by decide), h.map.aside h.oN hg, ?_, Own.aside h.oL h.oN (by decide) hg, ⟨h.eL.1, fun k z l a b => Own.aside (h.eL.2 k z l a b) h.oN (by decide) hg⟩⟩
  unfold Own
  rw [List.length_append, List.length_singleton, List.flatMap_append]
  exact ho
theorem Ob0.appL (h : Ob0 b0 b1 bN bL bP bm n rb uN uL f X vN ns vL zs L) {g cap m c : Nat} {A : Option Addr} {vv : List Nd} (hV : OwnN b0 X (.slice A m c) vv) (ho : X'.ownsRow b0 24 1 (.slice (some ⟨g, 0, none⟩) (zs.length + 1) cap) (zs.length + 1) (zs.flatMap slc ++ [.slice A m c])) (hg : X.grownBy X' vL.ownBlock) :
    Ob0 b0 b1 bN bL bP bm n rb uN uL f X' vN ns (.slice (some ⟨g, 0, none⟩) (zs.length + 1) cap) (zs ++ [(A, m, c)]) (L ++ [vv]) := by
  refine ⟨keptT h.oL hg h.x1 (by decide), keptT h.oL hg h.xN (by decide), keptT h.oL hg h.xL (by decide), keptT h.oL hg h.xP (by decide), h.map.aside h.oL hg, Own.aside h.oN h.oL (by decide) hg, ?_, (h.eL.asideT h.oL hg).snoc (Own.aside hV h.oL (by decide) hg)⟩
  unfold Own
  rw [List.length_append, List.length_singleton, List.flatMap_append]
  exact ho
theorem Ob0.upd (h : Ob0 b0 b1 bN bL bP bm n rb uN uL f X vN ns vL zs L) {n2 : Nat} {f2 : List UInt8 → Option Int} (hm : SMap X' bm n2 f2) (hg : X.grownBy X' (some bm)) : Ob0 b0 b1 bN bL bP bm n2 rb uN uL f2 X' vN ns vL zs L := by
  obtain ⟨es, clock, hb⟩ := h.map.blk
  exact ⟨kept_map hb hg h.x1, kept_map hb hg h.xN, kept_map hb hg h.xL, kept_map hb hg h.xP, hm, h.oN.map hb hg, h.oL.map hb hg, ⟨h.eL.1, fun k z l a b => (h.eL.2 k z l a b).map hb hg⟩⟩
theorem Ob0.setN (h : Ob0 b0 b1 bN bL bP bm n rb uN uL f X vN ns vL zs L) (u : Value) : Ob0 b0 b1 bN bL bP bm n rb u uL f (X.setCell ⟨bN, 0, none⟩ u) vN ns vL zs L :=
  ⟨h.x1.other (h.xN.apart h.x1 (by decide)) _, h.xN.set u, h.xL.other (h.xN.apart h.xL (by decide)) _, h.xP.other (h.xN.apart h.xP (by decide)) _, h.map.cell (h.map.ne (k := bN) h.xN) _, h.oN.box h.xN (by decide) _, h.oL.box h.xN (by decide) _, h.eL.box h.xN (by decide) _⟩
theorem Ob0.setL (h : Ob0 b0 b1 bN bL bP bm n rb uN uL f X vN ns vL zs L) (u : Value) : Ob0 b0 b1 bN bL bP bm n rb uN u f (X.setCell ⟨bL, 0, none⟩ u) vN ns vL zs L :=
  ⟨h.x1.other (h.xL.apart h.x1 (by decide)) _, h.xN.other (h.xL.apart h.xN (by decide)) _, h.xL.set u, h.xP.other (h.xL.apart h.xP (by decide)) _, h.map.cell (h.map.ne (k := bL) h.xL) _, h.oN.box h.xL (by decide) _, h.oL.box h.xL (by decide) _, h.eL.box h.xL (by decide) _⟩
end
theorem Ob0.putL {b0 b1 bN bL bP bm n rb g cap q m c : Nat} {uN uL : Value} {f : List UInt8 → Option Int} {X : World} {vN : Value} {ns : List (List UInt8)} {zs : List (Option Addr × Nat × Nat)} {L : List (List Nd)} {z : Option Addr × Nat × Nat} {A : Option Addr} {vv : List Nd}
    (h : Ob0 b0 b1 bN bL bP bm n rb uN uL f X vN ns (.slice (some ⟨g, 0, none⟩) zs.length cap) zs L) (hz : zs[q]? = some z) (hV : OwnN b0 X (.slice A m c) vv) :
    Ob0 b0 b1 bN bL bP bm n rb uN uL f (X.setCell ⟨g, q, none⟩ (.slice A m c)) vN ns (.slice (some ⟨g, 0, none⟩) zs.length cap) (zs.set q (A, m, c)) (L.set q vv) := by
  have hg : X.grownBy (X.setCell ⟨g, q, none⟩ (.slice A m c)) (Value.slice (some ⟨g, 0, none⟩) zs.length cap).ownBlock := (World.ownsRow.stored h.oL q (.slice A m c)).2
  have hp := Own.put slc_len (j := 0) (y := (A, m, c)) (u := .slice A m c) h.oL hz (by decide) rfl
  rw [Nat.mul_one, Nat.add_zero] at hp
  refine ⟨keptT h.oL hg h.x1 (by decide), keptT h.oL hg h.xN (by decide), keptT h.oL hg h.xL (by decide), keptT h.oL hg h.xP (by decide), h.map.aside h.oL hg, Own.aside h.oN h.oL (by decide) hg, hp, by rw [List.length_set, List.length_set]; exact h.eL.1, fun k y l a b => ?_⟩
  have hV' : OwnN b0 (X.setCell ⟨g, q, none⟩ (.slice A m c)) (.slice A m c) vv := Own.aside hV h.oL (by decide) hg
  by_cases e : q = k
  · subst e
    have hql : q < zs.length := (List.getElem?_eq_some_iff.1 hz).1
    rw [List.getElem?_set_self hql] at a
    rw [List.getElem?_set_self (by rw [← h.eL.1]; exact hql)] at b
    injection a with a
    injection b with b
    subst a b
    exact hV'
  · rw [List.getElem?_set_ne e] at a b
    exact Own.aside (h.eL.2 k y l a b) h.oL (by decide) hg
theorem putP_parts (nm : List UInt8) (v : List Nd) : ∀ acc : List Pr, (acc.map (·.1)).Nodup → (acc.map fun q => if q.1 = nm then (nm, v) else q).map (·.2) = (acc.map (·.2)).set ((acc.map (·.1)).idxOf nm) v
  | [], _ => rfl
  | p :: acc, h => by
    rw [List.map_cons, List.nodup_cons] at h
    have ih := putP_parts nm v acc h.2
    simp only [List.map_cons, List.idxOf_cons]
    by_cases e : p.1 = nm
    · rw [if_pos e]
      have hk : (acc.map fun q => if q.1 = nm then (nm, v) else q) = acc := by
        conv => rhs; rw [← List.map_id acc]
        refine List.map_congr_left fun r hr => ?_
        rw [if_neg]; rfl
        intro hr2
        exact h.1 (List.mem_map.2 ⟨r, hr, by rw [hr2, e]⟩)
      rw [hk]
      simp [e]
    · rw [if_neg e, ih]
      have : (p.1 == nm) = false := by simpa using e
      simp [this]
theorem new_at {w : World} {o : Obj} {B : Nat} (h : B = w.heap.size) : (w.alloc o).heap[B]? = some o := by subst h; exact heap_alloc_new w o
theorem new_at2 {w : World} {o o2 : Obj} {B : Nat} (h : B = w.heap.size) : ((w.alloc o).alloc o2).heap[B]? = some o := by
  subst h
  exact (Below.heap_alloc _ _ _ (by simp)).trans (heap_alloc_new w o)
/-- All that a field's end needs. -/
structure Bfd (base : World) (s : ByteArray) (k d b0 b1 bN bL bP bm n rb : Nat) (uN uL : Value) (f : List UInt8 → Option Int) (A : Option Addr) (m c : Nat) (vv : List Nd) (X : World) (vN : Value) (ns : List (List UInt8)) (vL : Value) (zs : List (Option Addr × Nat × Nat)) (L : List (List Nd)) : Prop where
  kb : Kb base.heap.size rb base X
  rd : Rd rb s k d X
  pt : OwnN b0 X (.slice A m c) vv
  ob : Ob0 b0 b1 bN bL bP bm n rb uN uL f X vN ns vL zs L
section
variable {base : World} {s : ByteArray} {k d b0 b1 bN bL bP bm n rb : Nat} {uN uL : Value} {f : List UInt8 → Option Int} {A : Option Addr} {m c : Nat} {vv : List Nd} {X X' : World} {vN : Value} {ns : List (List UInt8)} {vL : Value} {zs : List (Option Addr × Nat × Nat)} {L : List (List Nd)}
theorem Bfd.alloc (h : Bfd base s k d b0 b1 bN bL bP bm n rb uN uL f A m c vv X vN ns vL zs L) (o : Obj) : Bfd base s k d b0 b1 bN bL bP bm n rb uN uL f A m c vv (X.alloc o) vN ns vL zs L :=
  ⟨h.kb.alloc h.kb.size o, h.rd.alloc o, Own.alloc h.pt o, h.ob.alloc o⟩
theorem Bfd.alloc2 (h : Bfd base s k d b0 b1 bN bL bP bm n rb uN uL f A m c vv X vN ns vL zs L) (o o2 : Obj) : Bfd base s k d b0 b1 bN bL bP bm n rb uN uL f A m c vv ((X.alloc o).alloc o2) vN ns vL zs L := (h.alloc o).alloc o2
theorem Bfd.appN (h : Bfd base s k d b0 b1 bN bL bP bm n rb uN uL f A m c vv X vN ns vL zs L) (h0 : base.heap.size ≤ b0) {g cap : Nat} {nm : List UInt8} (ho : X'.ownsRow b0 9 1 (.slice (some ⟨g, 0, none⟩) (ns.length + 1) cap) (ns.length + 1) (ns.flatMap stc ++ [.string ⟨nm.toArray⟩])) (hg : X.grownBy X' vN.ownBlock) :
    Bfd base s k d b0 b1 bN bL bP bm n rb uN uL f A m c vv X' (.slice (some ⟨g, 0, none⟩) (ns.length + 1) cap) (ns ++ [nm]) vL zs L :=
  ⟨h.kb.grown hg h.kb.size (fun j hj => by have := (World.ownsRow.lt h.ob.oN j hj).1; omega), keptT h.ob.oN hg h.rd (by decide), Own.aside h.pt h.ob.oN (by decide) hg, h.ob.appN ho hg⟩
theorem Bfd.appL (h : Bfd base s k d b0 b1 bN bL bP bm n rb uN uL f A m c vv X vN ns vL zs L) (h0 : base.heap.size ≤ b0) {g cap : Nat} (ho : X'.ownsRow b0 24 1 (.slice (some ⟨g, 0, none⟩) (zs.length + 1) cap) (zs.length + 1) (zs.flatMap slc ++ [.slice A m c])) (hg : X.grownBy X' vL.ownBlock) :
    Bfd base s k d b0 b1 bN bL bP bm n rb uN uL f A m c vv X' vN ns (.slice (some ⟨g, 0, none⟩) (zs.length + 1) cap) (zs ++ [(A, m, c)]) (L ++ [vv]) :=
  ⟨h.kb.grown hg h.kb.size (fun j hj => by have := (World.ownsRow.lt h.ob.oL j hj).1; omega), keptT h.ob.oL hg h.rd (by decide), Own.aside h.pt h.ob.oL (by decide) hg, h.ob.appL h.pt ho hg⟩
theorem Bfd.alD (h : Bfd base s k d b0 b1 bN bL bP bm n rb uN uL f A m c vv X.drew vN ns vL zs L) (o : Obj) : Bfd base s k d b0 b1 bN bL bP bm n rb uN uL f A m c vv (X.alloc o).drew vN ns vL zs L := h.alloc o
theorem Bfd.alD2 (h : Bfd base s k d b0 b1 bN bL bP bm n rb uN uL f A m c vv X.drew vN ns vL zs L) (o o2 : Obj) : Bfd base s k d b0 b1 bN bL bP bm n rb uN uL f A m c vv ((X.alloc o).alloc o2).drew vN ns vL zs L := (h.alloc o).alloc o2
/-- What the stores and the loads want. -/
theorem Bfd.cells (h : Bfd base s k d b0 b1 bN bL bP bm n rb uN uL f A m c vv X vN ns vL zs L) : X.cell? ⟨bN, 0, none⟩ = some uN ∧ X.cell? ⟨bL, 0, none⟩ = some uL ∧ X.frozen? ⟨bN, 0, none⟩ = false ∧ X.frozen? ⟨bL, 0, none⟩ = false ∧ ¬ bN = X.heap.size ∧ ¬ bL = X.heap.size ∧ bN < X.heap.size ∧ bL < X.heap.size ∧ ¬ bN = bL ∧ ¬ bL = bN :=
  ⟨h.ob.xN.c, h.ob.xL.c, h.ob.xN.f, h.ob.xL.f, Nat.ne_of_lt h.ob.xN.lt, Nat.ne_of_lt h.ob.xL.lt, h.ob.xN.lt, h.ob.xL.lt, h.ob.xN.apart h.ob.xL (by decide), h.ob.xL.apart h.ob.xN (by decide)⟩
theorem Bfd.size (h : Bfd base s k d b0 b1 bN bL bP bm n rb uN uL f A m c vv X vN ns vL zs L) (hb : b0 ≤ base.heap.size) : b0 ≤ X.heap.size := Nat.le_trans hb h.kb.size
end
end Go.Proofs.YtafbojiojeemoaaGreatDoor
