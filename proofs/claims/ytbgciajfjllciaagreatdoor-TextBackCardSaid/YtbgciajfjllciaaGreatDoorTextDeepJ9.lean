/-
  Joined: Tx4, TxB.
-/
import Derived.Test.YtbgciajfjllciaaGreatDoorTextDeepJ4
import Derived.Shelf.Abstract
import Derived.Test.YtbgciajfjllciaaGreatDoorTextDeepJ16
import Derived.LoopN

/-
  What the reader's parts is, whatever reads each part.
-/
namespace Go.Proofs.YtbgciajfjllciaaGreatDoor
open Go.RowKit Np Rw Vp Up Qp Tp

theorem Rd.deeper {rb : Nat} {s : ByteArray} {i d : Nat} {w : World} (h : Rd rb s i d w) : Rd rb s i (d + 1) (w.setCell ⟨rb, 2, none⟩ (.int .i64 ((d : Int) + 1))) := h.into (d + 1)
theorem ptR_at {α β : Type} {rd : Nat → Rs α} {put : β → α → β} {zero : β} {S : List UInt8} {c j : Nat} (h : isAt S (j + 1) c = true) : ptR rd put zero S c j = .ok zero (sk S (j + 1) + 1) := by
  unfold ptR; rw [if_pos (isAt_iff.1 h)]
theorem ptR_not {α β : Type} {rd : Nat → Rs α} {put : β → α → β} {zero : β} {S : List UInt8} {c j : Nat} (h : isAt S (j + 1) c = false) : ptR rd put zero S c j = lpR rd put S c (S.length + 1) (sk S (j + 1)) zero := by
  unfold ptR; rw [if_neg (fun h' => by rw [isAt_iff.2 h'] at h; cases h)]
theorem lpA_at {α β : Type} {rd : Nat → Rs α} {put : β → α → β} {acc : β} {S : List UInt8} {c m k : Nat} (h : isAt S k c = true) : lpA rd put S c m k acc = .ok acc (sk S k + 1) := by
  unfold lpA; rw [if_pos (isAt_iff.1 h)]
theorem lpA_more {α β : Type} {rd : Nat → Rs α} {put : β → α → β} {acc : β} {S : List UInt8} {c m k : Nat} (h : isAt S k c = false) (h2 : isAt S k 44 = true) : lpA rd put S c m k acc = lpR rd put S c m (sk S k + 1) acc := by
  unfold lpA; rw [if_neg (fun h' => by rw [isAt_iff.2 h'] at h; cases h), if_pos (isAt_iff.1 h2)]
theorem lpA_bad {α β : Type} {rd : Nat → Rs α} {put : β → α → β} {acc : β} {S : List UInt8} {c m k : Nat} (h : isAt S k c = false) (h2 : isAt S k 44 = false) : lpA rd put S c m k acc = .bad 1 (sk S k) := by
  unfold lpA; rw [if_neg (fun h' => by rw [isAt_iff.2 h'] at h; cases h), if_neg (fun h' => by rw [isAt_iff.2 h'] at h2; cases h2)]
theorem past_not {S : List UInt8} {i c : Nat} (h : isAt S i c = false) : past S i c = sk S i := by unfold past; rw [h]; rfl
theorem past_at {S : List UInt8} {i c : Nat} (h : isAt S i c = true) : past S i c = sk S i + 1 := by unfold past; rw [h]; rfl
theorem isAt_sk (S : List UInt8) (i c : Nat) : isAt S (sk S i) c = isAt S i c := by unfold isAt; rw [sk_sk]

set_option maxHeartbeats 4000000 in
theorem parts_any {α β : Type} (K : Nat) (cap : Array Value) (c : Nat) (rd : Nat → Rs α) (put : β → α → β) (zero : β) (St : Nat → β → World → Prop) (base : World) (rb : Nat) (s : ByteArray) (j d : Nat) (w : World)
    (eK : ∀ args w, (callFunc K args).run Tryz.prog w = .ok (.enter K args) w) (hc : c ≠ 0) (hd : d < 128) (hj : j < s.size) (hs : s.size ≤ 200000)
    (hr : Rd rb s j d w) (hb : Kb base.heap.size rb base w) (h0 : St j zero w)
    (hk : ∀ i acc W W' k x, St i acc W → Rd rb s k x W → Kb W.heap.size rb W W' → St i acc W')
    (hm : ∀ i k acc W, St i acc W → i ≤ k → St k acc W)
    (hG : ∀ i v k, rd i = .ok v k → i < k ∧ k ≤ s.size)
    (HF : ∀ i acc W, j < i → i ≤ s.size → St (i - 1) acc W → Rd rb s i (d + 1) W → Kb base.heap.size rb base W → Calls Tryz.prog K cap W (PtE rb s (d + 1) St base (mapR (put acc) (rd i)))) :
    Calls Tryz.prog 62 #[.pointer (some ⟨rb, 0, none⟩), .int .u8 c, .func (.func K) #[] cap] w (PtE rb s d St base (ptR rd put zero s.data.toList c j)) := by
  have HR := Lib.hid hr
  have HB := Lib.hid hb
  have H0 := Lib.hid h0
  have HK := Lib.hid hk
  have HM := Lib.hid hm
  have HG := Lib.hid hG
  have HFF := Lib.hid HF
  have c1 := hr.c1
  have c2 := hr.c2
  have f1 := hr.fz 1
  have f2 := hr.fz 2
  have hdb : ((d : Int) == 128) = false := by simp; omega
  -- the world in which the first mark is passed
  have HR1 : Hid (Rd rb s (j + 1) (d + 1) ((w.setCell ⟨rb, 2, none⟩ (.int .i64 ((d : Int) + 1))).setCell ⟨rb, 1, none⟩ (.int .i64 ((j : Int) + 1)))) := Lib.hid hr.deeper.up
  have HB1 : Hid (Kb base.heap.size rb base ((w.setCell ⟨rb, 2, none⟩ (.int .i64 ((d : Int) + 1))).setCell ⟨rb, 1, none⟩ (.int .i64 ((j : Int) + 1)))) := Lib.hid ((hb.set 2 _).set 1 _)
  have H01 : Hid (St (sk s.data.toList (j + 1) - 1) zero ((w.setCell ⟨rb, 2, none⟩ (.int .i64 ((d : Int) + 1))).setCell ⟨rb, 1, none⟩ (.int .i64 ((j : Int) + 1)))) := Lib.hid (hm j _ _ _ (hk _ _ _ _ _ _ h0 hr (((Kb.refl _ _ _).set 2 _).set 1 _)) (by have := sk_ge s.data.toList (j + 1); omega))
  have HT := Lib.hid (fun W h => takes_any rb s (j + 1) (d + 1) c W h (by omega) hs)
  clear hr hb h0 hk hm hG HF
  have HZ : Hid (isAt s.data.toList (j + 1) c = true → ptR rd put zero s.data.toList c j = .ok zero (sk s.data.toList (j + 1) + 1)) := Lib.hid ptR_at
  have HL : Hid (isAt s.data.toList (j + 1) c = false → ptR rd put zero s.data.toList c j = lpR rd put s.data.toList c (s.data.toList.length + 1) (sk s.data.toList (j + 1)) zero) := Lib.hid ptR_not
  generalize ptR rd put zero s.data.toList c j = R at *
  go_enter Tryz.func62, Tryz.ntmps62
  go_wp2_with fail
  generalize (w.setCell ⟨rb, 2, none⟩ (.int .i64 ((d : Int) + 1))).setCell ⟨rb, 1, none⟩ (.int .i64 ((j : Int) + 1)) = W1 at HR1 HB1 H01 ⊢
  refine (HT.out W1 HR1.out).mono ?_
  rintro e w2 ⟨rfl, hr2, hk2⟩
  have HB2 : Hid (Kb base.heap.size rb base w2) := Lib.hid (HB1.out.trans (hk2.mono HB1.out.size))
  have H02 : Hid (St (sk s.data.toList (j + 1) - 1) zero w2) := Lib.hid (HK.out _ _ _ _ _ _ H01.out HR1.out hk2)
  have HS1 : sk s.data.toList (j + 1) ≤ s.size := sk_le (S := s.data.toList) (by show j + 1 ≤ s.size; omega)
  have HS2 : j + 1 ≤ sk s.data.toList (j + 1) := sk_ge _ _
  have HS3 : Hid (isAt s.data.toList (j + 1) c = true → sk s.data.toList (j + 1) + 1 ≤ s.size) := Lib.hid (fun h => by
    have := bt_lt (S := s.data.toList) (k := sk s.data.toList (j + 1)) (by rw [isAt_iff.1 h]; exact hc)
    exact this)
  have HPN : Hid (isAt s.data.toList (j + 1) c = false → past s.data.toList (j + 1) c = sk s.data.toList (j + 1)) := Lib.hid past_not
  have HPA : Hid (isAt s.data.toList (j + 1) c = true → past s.data.toList (j + 1) c = sk s.data.toList (j + 1) + 1) := Lib.hid past_at
  generalize isAt s.data.toList (j + 1) c = I at *
  generalize past s.data.toList (j + 1) c = Q at *
  generalize sk s.data.toList (j + 1) = T at *
  clear HB1 H01 HR1 hk2 HT
  cases I
  · -- parts
    have e1 := (HPN.out rfl).symm
    subst e1
    have HL2 := Lib.hid (HL.out rfl)
    have HR2 := Lib.hid hr2
    clear hr2 HL HZ HPN HPA HS3
    have HF1 := HFF.out T zero w2 (by omega) HS1 H02.out HR2.out HB2.out
    cases hrd : rd T with
    | bad er p =>
      rw [hrd] at HF1
      have HFB := Lib.hid HF1
      have HRR : Hid (R = .bad er p) := Lib.hid (by rw [HL2.out]; exact lpR_bad hrd)
      clear HF1 hrd
      go_wp2_with (go_at_fn K; refine HFB.out.mono ?_; rintro e3 w3 ⟨hk3, he⟩; unfold flt at he; subst he)
      exact ⟨rfl, PtE.bad HRR.out hk3⟩
    | ok v k =>
      rw [hrd] at HF1
      have HFB := Lib.hid HF1
      have HLA : Hid (R = lpA rd put s.data.toList c s.data.toList.length k (put zero v)) := Lib.hid (by rw [HL2.out]; exact lpR_ok hrd)
      have HGK := HG.out T v k hrd
      clear HF1 hrd HL2
      go_wp2_with (go_at_fn K; refine HFB.out.mono ?_; rintro e3 w3 ⟨hk3, rfl, hs3, hr3⟩)
      have HK3 := Lib.hid hk3
      have HS3 := Lib.hid hs3
      have HR3 := Lib.hid hr3
      clear hk3 hs3 hr3 HR2 HB2 H02 HFB
      go_loopw [] (fun wr => ∃ (m k : Nat) (acc : β), j < k ∧ k ≤ s.size ∧ s.size ≤ m + k ∧ Hid (R = lpA rd put s.data.toList c m k acc) ∧ Hid (St k acc wr) ∧ Hid (Rd rb s k (d + 1) wr) ∧ Hid (Kb base.heap.size rb base wr)) (fun wr => s.size - atOf rb wr)
      case atStart => exact ⟨s.data.toList.length, k, put zero v, by omega, HGK.2, by rw [size_toList]; omega, HLA, HS3, HR3, HK3⟩
      case round =>
        obtain ⟨m, k2, acc, hjk, hk2, hmk, HA, HS4, HR4, HB4⟩ := hrel
        have HT4 := takes_any rb s k2 (d + 1) c wr HR4.out hk2 hs
        have HSK : sk s.data.toList k2 ≤ s.size := sk_le (S := s.data.toList) hk2
        have HSK2 : k2 ≤ sk s.data.toList k2 := sk_ge _ _
        have HN4 := fun W (h : Rd rb s (sk s.data.toList k2) (d + 1) W) => needs_any rb s (sk s.data.toList k2) (d + 1) 44 W h HSK hs
        rw [sk_sk, isAt_sk] at HN4
        cases hI : isAt s.data.toList k2 c with
        | true =>
          rw [hI, past_at hI] at HT4
          have HA2 := HA.out
          rw [lpA_at hI] at HA2
          have HAA := Lib.hid HA2
          have HTT := Lib.hid HT4
          clear HA HA2 HT4 HN4 hI
          generalize sk s.data.toList k2 = T2 at *
          go_wp2_with (go_at_call 86; refine HTT.out.mono ?_; rintro e w4 ⟨rfl, hr4, hk4⟩; have d2 := hr4.c2; have g2 := hr4.fz 2; have HR5 : Hid (Rd rb s (T2 + 1) d (w4.setCell ⟨rb, 2, none⟩ (.int .i64 d))) := Lib.hid (hr4.into d); have HB5 : Hid (Kb base.heap.size rb base (w4.setCell ⟨rb, 2, none⟩ (.int .i64 d))) := Lib.hid ((HB4.out.trans (hk4.mono HB4.out.size)).set 2 _); have HS5 : Hid (St (T2 + 1) acc (w4.setCell ⟨rb, 2, none⟩ (.int .i64 d))) := Lib.hid (HM.out _ _ _ _ (HK.out _ _ _ _ _ _ HS4.out HR4.out (hk4.set 2 _)) (by omega)))
          go_end0
          exact PtE.ok HAA.out HB5.out HS5.out HR5.out
        | false =>
          rw [hI, past_not hI] at HT4
          have HTT := Lib.hid HT4
          clear HT4
          cases hJ : isAt s.data.toList k2 44 with
          | false =>
            have HA2 := HA.out
            rw [lpA_bad hI hJ] at HA2
            have HAA := Lib.hid HA2
            have HNN : Hid (∀ W, Rd rb s (sk s.data.toList k2) (d + 1) W → Calls Tryz.prog 66 #[.pointer (some ⟨rb, 0, none⟩), .int .u8 44] W fun e w' => Kb W.heap.size rb W w' ∧ e = flt 1 (sk s.data.toList k2)) := Lib.hid (fun W h => (HN4 W h).mono (by
              rintro e w' ⟨h1, ⟨h2, -⟩ | ⟨-, h2⟩⟩
              · rw [hJ] at h2; cases h2
              · exact ⟨h1, h2⟩))
            clear HA HA2 HN4 hI hJ
            generalize sk s.data.toList k2 = T2 at *
            go_wp2_with (first
              | (go_at_call 86; refine HTT.out.mono ?_; rintro e w4 ⟨rfl, hr4, hk4⟩; have HB5 : Hid (Kb base.heap.size rb base w4) := Lib.hid (HB4.out.trans (hk4.mono HB4.out.size)); have HR5 := Lib.hid hr4)
              | (go_at_call 66; refine (HNN.out _ HR5.out).mono ?_; rintro e w5 ⟨hk5, he⟩; unfold flt at he; subst he))
            exact ⟨rfl, PtE.bad HAA.out (HB5.out.trans (hk5.mono HB5.out.size))⟩
          | true =>
            have HA2 := HA.out
            rw [lpA_more hI hJ] at HA2
            have hlt : sk s.data.toList k2 < s.size := bt_lt (S := s.data.toList) (k := sk s.data.toList k2) (by rw [isAt_iff.1 hJ]; decide)
            have HNN : Hid (∀ W, Rd rb s (sk s.data.toList k2) (d + 1) W → Calls Tryz.prog 66 #[.pointer (some ⟨rb, 0, none⟩), .int .u8 44] W fun e w' => Kb W.heap.size rb W w' ∧ e = .returned (.tuple #[]) ∧ Rd rb s (sk s.data.toList k2 + 1) (d + 1) w') := Lib.hid (fun W h => (HN4 W h).mono (by
              rintro e w' ⟨h1, ⟨-, h2⟩ | ⟨h2, -⟩⟩
              · exact ⟨h1, h2⟩
              · rw [hJ] at h2; cases h2))
            obtain ⟨m2, rfl⟩ : ∃ m2, m = m2 + 1 := ⟨m - 1, by omega⟩
            have HAA := Lib.hid HA2
            clear HA HA2 HN4 hI hJ
            generalize sk s.data.toList k2 = T2 at *
            have HF5 : Hid (∀ W W0, Kb base.heap.size rb base W0 → Kb wr.heap.size rb wr W0 → Rd rb s T2 (d + 1) W0 → Kb W0.heap.size rb W0 W → Rd rb s (T2 + 1) (d + 1) W → Calls Tryz.prog K cap W (PtE rb s (d + 1) St base (mapR (put acc) (rd (T2 + 1))))) := Lib.hid (fun W W0 h1 h2 h3 h4 h5 =>
              HFF.out (T2 + 1) acc W (by omega) (by omega) (HM.out _ _ _ _ (HK.out _ _ _ _ _ _ (HK.out _ _ _ _ _ _ HS4.out HR4.out h2) h3 h4) (by omega)) h5 (h1.trans (h4.mono h1.size)))
            cases hrd : rd (T2 + 1) with
            | bad er p =>
              rw [hrd] at HF5
              have HRR : Hid (R = .bad er p) := Lib.hid (by rw [HAA.out]; exact lpR_bad hrd)
              clear hrd
              go_wp2_with (first
                | (go_at_call 86; refine HTT.out.mono ?_; rintro e w4 ⟨rfl, hr4, hk4⟩; have HB5 : Hid (Kb base.heap.size rb base w4) := Lib.hid (HB4.out.trans (hk4.mono HB4.out.size)); have HR5 := Lib.hid hr4; have HK5 := Lib.hid hk4)
                | (go_at_call 66; refine (HNN.out _ HR5.out).mono ?_; rintro e w5 ⟨hk5, rfl, hr5⟩; have HK6 := Lib.hid hk5; have HR6 := Lib.hid hr5)
                | (go_at_fn K; refine (HF5.out _ _ HB5.out HK5.out HR5.out HK6.out HR6.out).mono ?_; rintro e3 w6 ⟨hk6, he⟩; unfold flt at he; subst he))
              exact ⟨rfl, PtE.bad HRR.out hk6⟩
            | ok v k3 =>
              rw [hrd] at HF5
              have HRR : Hid (R = lpA rd put s.data.toList c m2 k3 (put acc v)) := Lib.hid (by rw [HAA.out]; exact lpR_ok hrd)
              have hgk := HG.out _ v k3 hrd
              clear hrd
              go_wp2_with (first
                | (go_at_call 86; refine HTT.out.mono ?_; rintro e w4 ⟨rfl, hr4, hk4⟩; have HB5 : Hid (Kb base.heap.size rb base w4) := Lib.hid (HB4.out.trans (hk4.mono HB4.out.size)); have HR5 := Lib.hid hr4; have HK5 := Lib.hid hk4)
                | (go_at_call 66; refine (HNN.out _ HR5.out).mono ?_; rintro e w5 ⟨hk5, rfl, hr5⟩; have HK6 := Lib.hid hk5; have HR6 := Lib.hid hr5)
                | (go_at_fn K; refine (HF5.out _ _ HB5.out HK5.out HR5.out HK6.out HR6.out).mono ?_; rintro e3 w6 ⟨hk6, rfl, hs6, hr6⟩; have HK7 := Lib.hid hk6; have HS7 := Lib.hid hs6; have HR7 := Lib.hid hr6))
              refine ⟨⟨m2, k3, put acc v, by omega, hgk.2, by omega, HRR, HS7, HR7, HK7⟩, ?_⟩
              rw [HR7.out.atOf, HR4.out.atOf]
              omega
  · have e1 := HPA.out rfl
    subst e1
    have HZ2 := Lib.hid (HZ.out rfl)
    have c2' := hr2.c2
    have f2' := hr2.fz 2
    have HR2 := Lib.hid hr2
    have HR3 : Hid (Rd rb s (T + 1) d (w2.setCell ⟨rb, 2, none⟩ (.int .i64 d))) := Lib.hid (hr2.into d)
    have HB3 : Hid (Kb base.heap.size rb base (w2.setCell ⟨rb, 2, none⟩ (.int .i64 d))) := Lib.hid (HB2.out.set 2 _)
    have H03 : Hid (St (T + 1) zero (w2.setCell ⟨rb, 2, none⟩ (.int .i64 d))) := Lib.hid (HM.out _ _ _ _ (HK.out _ _ _ _ _ _ H02.out hr2 ((Kb.refl _ _ _).set 2 _)) (by omega))
    clear hr2 HL HZ HPN HPA HS3
    go_wp2_with fail
    go_end0
    exact PtE.ok HZ2.out HB3.out H03.out HR3.out
end Go.Proofs.YtbgciajfjllciaaGreatDoor

/-
  What the reader's word is.
-/
namespace Go.Proofs.YtbgciajfjllciaaGreatDoor
open Go.RowKit Np Up Qp Tp

/-- The words, as the package lays them. -/
def Wds (w : World) : Prop := w.cell? ⟨0, 0, none⟩ = some (.string ⟨wNull.toArray⟩) ∧ w.cell? ⟨0, 1, none⟩ = some (.string ⟨wFalse.toArray⟩) ∧ w.cell? ⟨0, 2, none⟩ = some (.string ⟨wTrue.toArray⟩)
theorem Wds.below {w w' : World} (h : Wds w) (hb : Below w.heap.size w w') : Wds w' := by
  have hlt := World.block_lt_of_cell? _ _ h.1
  exact ⟨(hb.cell (p := ⟨0, 0, none⟩) hlt).trans h.1, (hb.cell (p := ⟨0, 1, none⟩) hlt).trans h.2.1, (hb.cell (p := ⟨0, 2, none⟩) hlt).trans h.2.2⟩

set_option maxRecDepth 100000 in
set_option maxHeartbeats 4000000 in
theorem rdWord_any (rb : Nat) (s : ByteArray) (T d : Nat) (w : World) (hr : Rd rb s T d w) (hT : T ≤ s.size) (hs : s.size ≤ 200000) (hW : Wds w) :
    Calls Tryz.prog 43 #[.pointer (some ⟨rb, 0, none⟩)] w (NdE rb s d w (woR s.data.toList T)) := by
  have hcut := cut_end s T
  have hP0 := fun w => Tryz.strings_HasPrefix (s.extract T s.size) ⟨#[110, 117, 108, 108]⟩ w
  have hP1 := fun w => Tryz.strings_HasPrefix (s.extract T s.size) ⟨#[102, 97, 108, 115, 101]⟩ w
  have hP2 := fun w => Tryz.strings_HasPrefix (s.extract T s.size) ⟨#[116, 114, 117, 101]⟩ w
  rw [hcut] at hP0 hP1 hP2
  have HRR : Hid (woR s.data.toList T = if Lib.hasPrefix (s.data.toList.drop T) wNull = true then .ok [hdN 0 0] (T + 4) else if Lib.hasPrefix (s.data.toList.drop T) wFalse = true then .ok [hdN 1 0] (T + 5) else if Lib.hasPrefix (s.data.toList.drop T) wTrue = true then .ok [hdN 2 0] (T + 4) else .bad 1 T) := Lib.hid rfl
  have HL : Hid (∀ k : Nat, ∀ x : List UInt8, x.length = k → 0 < k → Lib.hasPrefix (s.data.toList.drop T) x = true → T + k ≤ 200000) := Lib.hid (fun k x hk h0 h => by
    have h1 : x.length ≤ (s.data.toList.drop T).length := by
      unfold Lib.hasPrefix at h
      exact (List.isPrefixOf_iff_prefix.1 h).length_le
    rw [List.length_drop, size_toList] at h1
    omega)
  have hl0 := HL.out 4 wNull rfl (by decide)
  have hl1 := HL.out 5 wFalse rfl (by decide)
  have hl2 := HL.out 4 wTrue rfl (by decide)
  change ∀ w, Calls _ _ _ _ (fun e w' => e = .returned (.bool (Lib.hasPrefix (s.data.toList.drop T) wNull)) ∧ w' = w) at hP0
  change ∀ w, Calls _ _ _ _ (fun e w' => e = .returned (.bool (Lib.hasPrefix (s.data.toList.drop T) wFalse)) ∧ w' = w) at hP1
  change ∀ w, Calls _ _ _ _ (fun e w' => e = .returned (.bool (Lib.hasPrefix (s.data.toList.drop T) wTrue)) ∧ w' = w) at hP2
  generalize Lib.hasPrefix (s.data.toList.drop T) wNull = P0 at *
  generalize Lib.hasPrefix (s.data.toList.drop T) wFalse = P1 at *
  generalize Lib.hasPrefix (s.data.toList.drop T) wTrue = P2 at *
  generalize woR s.data.toList T = R at *
  have H0 := Lib.hid hP0
  have H1 := Lib.hid hP1
  have H2 := Lib.hid hP2
  clear hP0 hP1 hP2 HL hcut
  have c0 := hr.c0
  have c1 := hr.c1
  have f1 := hr.fz 1
  have hlt := hr.lt
  have hne : ¬ rb = w.heap.size := by omega
  have hwl : 0 < w.heap.size := World.block_lt_of_cell? _ _ hW.1
  obtain ⟨w0, w1, w2⟩ := hW
  simp only [wNull] at w0
  simp only [wFalse] at w1
  simp only [wTrue] at w2
  have hi0 : ∀ w, (Instr.index 86 (.agg #[.string ⟨#[110, 117, 108, 108]⟩, .string ⟨#[102, 97, 108, 115, 101]⟩, .string ⟨#[116, 114, 117, 101]⟩]) (.int .i64 0)).run Tryz.prog w = .ok (.string ⟨#[110, 117, 108, 108]⟩) w := fun _ => by kernel_rfl
  have hi1 : ∀ w, (Instr.index 86 (.agg #[.string ⟨#[110, 117, 108, 108]⟩, .string ⟨#[102, 97, 108, 115, 101]⟩, .string ⟨#[116, 114, 117, 101]⟩]) (.int .i64 1)).run Tryz.prog w = .ok (.string ⟨#[102, 97, 108, 115, 101]⟩) w := fun _ => by kernel_rfl
  have hi2 : ∀ w, (Instr.index 86 (.agg #[.string ⟨#[110, 117, 108, 108]⟩, .string ⟨#[102, 97, 108, 115, 101]⟩, .string ⟨#[116, 114, 117, 101]⟩]) (.int .i64 2)).run Tryz.prog w = .ok (.string ⟨#[116, 114, 117, 101]⟩) w := fun _ => by kernel_rfl
  have hnr : w.heap.size ≠ rb := fun e => hne e.symm
  have KK0 : ∀ (m : Nat) {t : Value} {v0 v1 v2 v3 v4 v5 : Value}, Kb w.heap.size rb w ((((((((((w.alloc (.cells #[.int .i64 0, .int .i64 0, .string ⟨#[]⟩, .string ⟨#[]⟩, .bool false, .int .i64 0] 38)).drewN m).setCell ⟨rb, 1, none⟩ t).setCell ⟨w.heap.size, 0, none⟩ v0).setCell ⟨w.heap.size, 1, none⟩ v1).setCell ⟨w.heap.size, 2, none⟩ v2).setCell ⟨w.heap.size, 3, none⟩ v3).setCell ⟨w.heap.size, 4, none⟩ v4).setCell ⟨w.heap.size, 5, none⟩ v5)) := fun m t v0 v1 v2 v3 v4 v5 =>
    ((((((((((Kb.refl _ _ _).alloc (Nat.le_refl _) _).drewN m).set 1 _).setHigh (Nat.le_refl _) _).setHigh (Nat.le_refl _) _).setHigh (Nat.le_refl _) _).setHigh (Nat.le_refl _) _).setHigh (Nat.le_refl _) _).setHigh (Nat.le_refl _) _)
  have RR0 : ∀ (k m : Nat) {v0 v1 v2 v3 v4 v5 : Value}, Rd rb s (T + k) d ((((((((((w.alloc (.cells #[.int .i64 0, .int .i64 0, .string ⟨#[]⟩, .string ⟨#[]⟩, .bool false, .int .i64 0] 38)).drewN m).setCell ⟨rb, 1, none⟩ (.int .i64 ((T + k : Nat) : Int))).setCell ⟨w.heap.size, 0, none⟩ v0).setCell ⟨w.heap.size, 1, none⟩ v1).setCell ⟨w.heap.size, 2, none⟩ v2).setCell ⟨w.heap.size, 3, none⟩ v3).setCell ⟨w.heap.size, 4, none⟩ v4).setCell ⟨w.heap.size, 5, none⟩ v5)) := fun k m v0 v1 v2 v3 v4 v5 =>
    ((((((((((hr.alloc _).drewN m).to (T + k)).other hnr _).other hnr _).other hnr _).other hnr _).other hnr _).other hnr _))
  have KP0 : ∀ m : Nat, Kb w.heap.size rb w ((w.alloc (.cells #[.int .i64 0, .int .i64 0, .string ⟨#[]⟩, .string ⟨#[]⟩, .bool false, .int .i64 0] 38)).drewN m) := fun m => ((Kb.refl _ _ _).alloc (Nat.le_refl _) _).drewN m
  have KK := Lib.hid KK0
  have RR := Lib.hid RR0
  have KP := Lib.hid KP0
  clear KK0 RR0 KP0
  clear hr
  go_enter Tryz.func43, Tryz.ntmps43
  go_wp2_with fail
  cases P0 with
  | true =>
    have hl0 := hl0 rfl
    have HRS : Hid (R = .ok [hdN 0 0] (T + 4)) := Lib.hid (by rw [HRR.out]; rfl)
    clear hl1 hl2
    refine wp_loop_rounds 4 ?_
    rw [rounds_succ]
    go_wp2_with fail
    go_quiet ((go_at_call 71; first | exact Calls.quiet_of_same (H0.out _) | exact (H0.out _).mono (fun e w'' h => ⟨h.1, _, h.2⟩)))
    go_wp2_with fail
    refine bodyPost_ret (v := nda (hdN 0 0)) ?_ rfl (NdE.ok HRS.out ?_ ?_)
    · simp [results, Tryz.results43, go_sem, nda, hdN]
    · exact KK.out _
    · exact RR.out 4 _
  | false =>
    cases P1 with
    | true =>
      have hl1 := hl1 rfl
      have HRS : Hid (R = .ok [hdN 1 0] (T + 5)) := Lib.hid (by rw [HRR.out]; rfl)
      clear hl0 hl2
      refine wp_loop_rounds 4 ?_
      rw [rounds_succ]
      go_wp2_with fail
      go_quiet ((go_at_call 71; first | exact Calls.quiet_of_same (H0.out _) | exact (H0.out _).mono (fun e w'' h => ⟨h.1, _, h.2⟩)))
      go_wp2_with fail
      rw [rounds_succ]
      go_wp2_with fail
      go_quiet ((go_at_call 71; first | exact Calls.quiet_of_same (H1.out _) | exact (H1.out _).mono (fun e w'' h => ⟨h.1, _, h.2⟩)))
      go_wp2_with fail
      refine bodyPost_ret (v := nda (hdN 1 0)) ?_ rfl (NdE.ok HRS.out ?_ ?_)
      · simp [results, Tryz.results43, go_sem, nda, hdN]
      · exact KK.out _
      · exact RR.out 5 _
    | false =>
      cases P2 with
      | true =>
        have hl2 := hl2 rfl
        have HRS : Hid (R = .ok [hdN 2 0] (T + 4)) := Lib.hid (by rw [HRR.out]; rfl)
        clear hl0 hl1
        refine wp_loop_rounds 4 ?_
        rw [rounds_succ]
        go_wp2_with fail
        go_quiet ((go_at_call 71; first | exact Calls.quiet_of_same (H0.out _) | exact (H0.out _).mono (fun e w'' h => ⟨h.1, _, h.2⟩)))
        go_wp2_with fail
        rw [rounds_succ]
        go_wp2_with fail
        go_quiet ((go_at_call 71; first | exact Calls.quiet_of_same (H1.out _) | exact (H1.out _).mono (fun e w'' h => ⟨h.1, _, h.2⟩)))
        go_wp2_with fail
        rw [rounds_succ]
        go_wp2_with fail
        go_quiet ((go_at_call 71; first | exact Calls.quiet_of_same (H2.out _) | exact (H2.out _).mono (fun e w'' h => ⟨h.1, _, h.2⟩)))
        go_wp2_with fail
        refine bodyPost_ret (v := nda (hdN 2 0)) ?_ rfl (NdE.ok HRS.out ?_ ?_)
        · simp [results, Tryz.results43, go_sem, nda, hdN]
        · exact KK.out _
        · exact RR.out 4 _
      | false =>
        have HRS : Hid (R = .bad 1 T) := Lib.hid (by rw [HRR.out]; rfl)
        clear hl0 hl1 hl2
        refine wp_loop_rounds 4 ?_
        rw [rounds_succ]
        go_wp2_with fail
        go_quiet ((go_at_call 71; first | exact Calls.quiet_of_same (H0.out _) | exact (H0.out _).mono (fun e w'' h => ⟨h.1, _, h.2⟩)))
        go_wp2_with fail
        rw [rounds_succ]
        go_wp2_with fail
        go_quiet ((go_at_call 71; first | exact Calls.quiet_of_same (H1.out _) | exact (H1.out _).mono (fun e w'' h => ⟨h.1, _, h.2⟩)))
        go_wp2_with fail
        rw [rounds_succ]
        go_wp2_with fail
        go_quiet ((go_at_call 71; first | exact Calls.quiet_of_same (H2.out _) | exact (H2.out _).mono (fun e w'' h => ⟨h.1, _, h.2⟩)))
        go_wp2_with fail
        rw [rounds_succ]
        go_wp2_with fail
        exact ⟨rfl, NdE.flt HRS.out _ rfl (KP.out _)⟩
end Go.Proofs.YtbgciajfjllciaaGreatDoor
