/-
  Joined: Tx8.
-/
import Derived.Test.YtbgciajfjllciaaGreatDoorTextDeepJ10
import Derived.Test.YtbgciajfjllciaaGreatDoorTextDeepJ13
import Derived.StringKeys

/-
  What the reader's object gathers: its closure.
-/
namespace Go.Proofs.YtbgciajfjllciaaGreatDoor
open Go.RowKit Go.Maps Np Rw Vp Up Qp Tp

theorem fdR_bad1 {rd : Nat → Rs (List Nd)} {S : List UInt8} {i p : Nat} {e : Int} (h : stR S (sk S i) = .bad e p) : fdR rd S i = .bad e p := by unfold fdR; rw [h]
theorem fdR_bad2 {rd : Nat → Rs (List Nd)} {S : List UInt8} {i k : Nat} {nm : List UInt8} (h : stR S (sk S i) = .ok nm k) (hJ : isAt S k 58 = false) : fdR rd S i = .bad 1 (sk S k) := by
  unfold fdR; rw [h]
  show (if bt S (sk S k) = 58 then _ else _) = _
  rw [if_neg (fun h' => by rw [isAt_iff.2 h'] at hJ; cases hJ)]
theorem fdR_bad3 {rd : Nat → Rs (List Nd)} {S : List UInt8} {i k p : Nat} {nm : List UInt8} {e : Int} (h : stR S (sk S i) = .ok nm k) (hJ : isAt S k 58 = true) (hr : rd (sk S k + 1) = .bad e p) : fdR rd S i = .bad e p := by
  unfold fdR; rw [h]
  show (if bt S (sk S k) = 58 then _ else _) = _
  rw [if_pos (isAt_iff.1 hJ), hr]
theorem fdR_good {rd : Nat → Rs (List Nd)} {S : List UInt8} {i k p : Nat} {nm : List UInt8} {v : List Nd} (h : stR S (sk S i) = .ok nm k) (hJ : isAt S k 58 = true) (hr : rd (sk S k + 1) = .ok v p) : fdR rd S i = .ok (nm, v) p := by
  unfold fdR; rw [h]
  show (if bt S (sk S k) = 58 then _ else _) = _
  rw [if_pos (isAt_iff.1 hJ), hr]

/-- What an object has gathered. -/
def ObSt (b0 b1 bN bL bP bm rb j i : Nat) (acc : List Pr) (W : World) : Prop :=
  FdP j (i + 1) acc ∧ ∃ vN vL zs n, n ≤ acc.length ∧ Ob0 b0 b1 bN bL bP bm n rb vN vL (ix (acc.map (·.1))) W vN (acc.map (·.1)) vL zs (acc.map (·.2))
theorem ObSt.kb {b0 b1 bN bL bP bm rb j i k x : Nat} {s : ByteArray} {acc : List Pr} {W W' : World} (h : ObSt b0 b1 bN bL bP bm rb j i acc W) (hr : Rd rb s k x W) (hk : Kb W.heap.size rb W W') : ObSt b0 b1 bN bL bP bm rb j i acc W' := by
  obtain ⟨h1, vN, vL, zs, n, h2, h3⟩ := h
  exact ⟨h1, vN, vL, zs, n, h2, h3.kb hr hk⟩
theorem ObSt.up {b0 b1 bN bL bP bm rb j i k : Nat} {acc : List Pr} {W : World} (h : ObSt b0 b1 bN bL bP bm rb j i acc W) (hk : i ≤ k) : ObSt b0 b1 bN bL bP bm rb j k acc W := ⟨h.1.up (by omega), h.2⟩

section
variable {base : World} {s : ByteArray} {j k d b0 b1 bN bL bP bm n rb m c : Nat} {uN uL : Value} {A : Option Addr} {vv : List Nd} {X : World} {vN : Value} {ns : List (List UInt8)} {vL : Value} {zs : List (Option Addr × Nat × Nat)} {L : List (List Nd)} {acc : List Pr}
theorem ob_end (h : Bfd base s k d b0 b1 bN bL bP bm n rb uN uL (ix ns) A m c vv X vN ns vL zs L) (hN : base.heap.size ≤ bN) (hL : base.heap.size ≤ bL) (e1 : acc.map (·.1) = ns) (e2 : acc.map (·.2) = L) (hP : FdP j (k + 1) acc) (hn : n ≤ acc.length) :
    PtE rb s d (ObSt b0 b1 bN bL bP bm rb j) base (.ok acc k) (.returned (.tuple #[])) ((X.setCell ⟨bN, 0, none⟩ vN).setCell ⟨bL, 0, none⟩ vL) := by
  subst e1 e2
  have h1 := h.ob.xN.ne_rd h.rd
  have h2 := h.ob.xL.ne_rd h.rd
  exact PtE.ok rfl ((h.kb.setHigh hN _).setHigh hL _) ⟨hP, vN, vL, zs, n, hn, (h.ob.setN vN).setL vL⟩ ((h.rd.other h1 _).other h2 _)
theorem ob_end' (h : Bfd base s k d b0 b1 bN bL bP bm n rb uN uL (ix ns) A m c vv X vN ns vL zs L) (hN : base.heap.size ≤ bN) (hL : base.heap.size ≤ bL) (e1 : acc.map (·.1) = ns) (e2 : acc.map (·.2) = L) (hP : FdP j (k + 1) acc) (hn : n ≤ acc.length) :
    PtE rb s d (ObSt b0 b1 bN bL bP bm rb j) base (.ok acc k) (.returned (.tuple #[])) ((X.setCell ⟨bL, 0, none⟩ vL).setCell ⟨bN, 0, none⟩ vN) := by
  subst e1 e2
  have h1 := h.ob.xN.ne_rd h.rd
  have h2 := h.ob.xL.ne_rd h.rd
  exact PtE.ok rfl ((h.kb.setHigh hL _).setHigh hN _) ⟨hP, vN, vL, zs, n, hn, (h.ob.setL vL).setN vN⟩ ((h.rd.other h2 _).other h1 _)
end
theorem i64_wf {x : Int} (h0 : 0 ≤ x) (h1 : x ≤ 1000000) : (Lit.int .i64 x).wf = true := by
  simp only [Lit.wf, IntKind.min, IntKind.max, IntKind.signed, IntKind.bits, Bool.and_eq_true, decide_eq_true_eq, if_true]
  omega

set_option maxRecDepth 100000 in
set_option maxHeartbeats 8000000 in
theorem object1_any (rd : Nat → Rs (List Nd)) (base : World) (rb : Nat) (s : ByteArray) (b0 b1 bN bL bP bm j i d : Nat) (acc : List Pr) (W : World) (hs : s.size ≤ 200000)
    (hSt : ObSt b0 b1 bN bL bP bm rb j (i - 1) acc W) (hr : Rd rb s i d W) (hb : Kb base.heap.size rb base W) (hb0 : base.heap.size ≤ b0) (hb00 : b0 ≤ base.heap.size) (hbN : base.heap.size ≤ bN) (hbL : base.heap.size ≤ bL) (hbm : base.heap.size ≤ bm) (hi : 1 ≤ i) (his : i ≤ s.size)
    (hE : ∀ w', Kb base.heap.size rb base w' → Er w') (hG : Goes s.data.toList rd)
    (HV : ∀ i' W', i' ≤ s.size → Rd rb s i' d W' → Kb base.heap.size rb base W' → Calls Tryz.prog 26 #[.pointer (some ⟨rb, 0, none⟩)] W' (VlE rb s d W' (rd i'))) :
    Calls Tryz.prog 65 #[.pointer (some ⟨b1, 0, none⟩), .pointer (some ⟨bP, 0, none⟩), .pointer (some ⟨bL, 0, none⟩), .pointer (some ⟨bN, 0, none⟩)] W (PtE rb s d (ObSt b0 b1 bN bL bP bm rb j) base (mapR (putP acc) (fdR rd s.data.toList i))) := by
  obtain ⟨hP, vN, vL, zs, n, hn, ho⟩ := hSt
  rw [show i - 1 + 1 = i by omega] at hP
  have hfew := hP.few
  have hbs : b0 ≤ W.heap.size := Nat.le_trans hb00 hb.size
  have HST := str_any rb s i d W hr his hs (fun w' h => hE w' (hb.trans (h.mono hb.size)))
  have HO := Lib.hid ho
  have HR := Lib.hid hr
  have HB := Lib.hid hb
  have a1 := ho.x1.c
  have HP := Lib.hid hP
  clear ho hr hb hP
  cases hst : stR s.data.toList (sk s.data.toList i) with
  | bad er p =>
    rw [hst] at HST
    have HS2 := Lib.hid HST
    have HF : Hid (fdR rd s.data.toList i = .bad er p) := Lib.hid (fdR_bad1 hst)
    clear hst HST HV hG
    go_enter Tryz.func65, Tryz.ntmps65
    go_wp2_with (go_at_call 41; refine HS2.out.mono ?_; rintro e w2 ⟨hk2, he⟩; unfold flt at he; subst he)
    exact ⟨rfl, by rw [HF.out]; exact PtE.bad rfl (HB.out.trans (hk2.mono HB.out.size))⟩
  | ok nm k =>
    rw [hst] at HST
    obtain ⟨hk1, hks, hvd, -, hkn⟩ := stR_ok hst
    have hks' : k ≤ s.size := hks
    have HS2 : Hid (Calls Tryz.prog 41 #[.pointer (some ⟨rb, 0, none⟩)] W (fun e w2 => Kb W.heap.size rb W w2 ∧ e = .returned (.string ⟨nm.toArray⟩) ∧ Rd rb s k d w2)) := Lib.hid HST
    have HN := fun X (h : Rd rb s k d X) => needs_any rb s k d 58 X h hks' hs
    clear HST
    cases hJ : isAt s.data.toList k 58 with
    | false =>
      have HF : Hid (fdR rd s.data.toList i = .bad 1 (sk s.data.toList k)) := Lib.hid (fdR_bad2 hst hJ)
      have HNN : Hid (∀ X, Rd rb s k d X → Calls Tryz.prog 66 #[.pointer (some ⟨rb, 0, none⟩), .int .u8 58] X fun e w' => Kb X.heap.size rb X w' ∧ e = flt 1 (sk s.data.toList k)) := Lib.hid (fun X h => (HN X h).mono (by
        rintro e w' ⟨h1, ⟨h2, -⟩ | ⟨-, h2⟩⟩
        · rw [hJ] at h2; cases h2
        · exact ⟨h1, h2⟩))
      clear hst HN HV hG hJ
      go_enter Tryz.func65, Tryz.ntmps65
      go_wp2_with (first
        | (go_at_call 41; refine HS2.out.mono ?_; rintro e w2 ⟨hk2, rfl, hr2⟩; have o2 := HO.out.kb HR.out hk2; have a2 := o2.x1.c; have HK2 := Lib.hid hk2; have HR2 := Lib.hid hr2; clear o2 hk2 hr2)
        | (go_at_call 66; refine (HNN.out _ HR2.out).mono ?_; rintro e w3 ⟨hk3, he⟩; unfold flt at he; subst he))
      exact ⟨rfl, by rw [HF.out]; exact PtE.bad rfl ((HB.out.trans (HK2.out.mono HB.out.size)).trans (hk3.mono (Nat.le_trans HB.out.size HK2.out.size)))⟩
    | true =>
      have hlt : sk s.data.toList k < s.size := bt_lt (S := s.data.toList) (k := sk s.data.toList k) (by rw [isAt_iff.1 hJ]; decide)
      have HNN : Hid (∀ X, Rd rb s k d X → Calls Tryz.prog 66 #[.pointer (some ⟨rb, 0, none⟩), .int .u8 58] X fun e w' => Kb X.heap.size rb X w' ∧ e = .returned (.tuple #[]) ∧ Rd rb s (sk s.data.toList k + 1) d w') := Lib.hid (fun X h => (HN X h).mono (by
        rintro e w' ⟨h1, ⟨-, h2⟩ | ⟨h2, -⟩⟩
        · exact ⟨h1, h2⟩
        · rw [hJ] at h2; cases h2))
      have HV3 := fun X => HV (sk s.data.toList k + 1) X (by omega)
      clear HN HV
      cases hrd : rd (sk s.data.toList k + 1) with
      | bad er p =>
        have HF : Hid (fdR rd s.data.toList i = .bad er p) := Lib.hid (fdR_bad3 hst hJ hrd)
        rw [hrd] at HV3
        have HV4 := Lib.hid HV3
        clear hst HV3 hG hJ hrd
        go_enter Tryz.func65, Tryz.ntmps65
        go_wp2_with (first
          | (go_at_call 41; refine HS2.out.mono ?_; rintro e w2 ⟨hk2, rfl, hr2⟩; have o2 := HO.out.kb HR.out hk2; have a2 := o2.x1.c; have HB2 := Lib.hid (HB.out.trans (hk2.mono HB.out.size)); have HR2 := Lib.hid hr2; have HO2 := Lib.hid o2; clear o2 hk2 hr2)
          | (go_at_call 66; refine (HNN.out _ HR2.out).mono ?_; rintro e w3 ⟨hk3, rfl, hr3⟩; have o3 := HO2.out.kb HR2.out hk3; have a3 := o3.x1.c; have HB3 := Lib.hid (HB2.out.trans (hk3.mono HB2.out.size)); have HR3 := Lib.hid hr3; clear o3 hk3 hr3)
          | (go_at_call 26; refine (HV4.out _ HR3.out HB3.out).mono ?_; rintro e w4 ⟨hk4, he⟩; unfold flt at he; subst he))
        exact ⟨rfl, by rw [HF.out]; exact PtE.bad rfl (HB3.out.trans (hk4.mono HB3.out.size))⟩
      | ok v k2 =>
        have HF : Hid (fdR rd s.data.toList i = .ok (nm, v) k2) := Lib.hid (fdR_good hst hJ hrd)
        rw [hrd] at HV3
        obtain ⟨hg1, hg2, hg3, hg4⟩ := hG _ v k2 hrd
        have HV4 : Hid (∀ X, Rd rb s (sk s.data.toList k + 1) d X → Kb base.heap.size rb base X → b0 ≤ X.heap.size → Calls Tryz.prog 26 #[.pointer (some ⟨rb, 0, none⟩)] X (fun e w4 => ∃ (A : Option Addr) (m c : Nat), e = .returned (.slice A m c) ∧ Hid (OwnN b0 w4 (.slice A m c) v) ∧ Hid (Rd rb s k2 d w4) ∧ Hid (Kb X.heap.size rb X w4))) := Lib.hid (fun X h1 h2 h3 => (HV3 X h1 h2).mono (by
          rintro e w4 ⟨hk4, V, rfl, hV, hr4⟩
          obtain ⟨A, c, rfl, -⟩ := hV.form
          exact ⟨A, v.length, c, rfl, Lib.hid (hV.mono h3), Lib.hid hr4, Lib.hid hk4⟩))
        have hkey : keyOf Tryz.prog 9 (.string ⟨nm.toArray⟩) = some (.string nm) := by
          simpa using WideMaps.keyOf_string_mk (P := Tryz.prog) Tryz.underlying9 (s := ⟨nm.toArray⟩) (by rw [mk_size]; unfold maxLen; omega)
        have hsk := sk_ge s.data.toList i
        have hsk2 := sk_ge s.data.toList k
        have HPP : Hid (FdP j (k2 + 1) (putP acc (nm, v))) := Lib.hid (HP.out.put (k := k2) hvd (by simp only; omega) (by simp only; omega) (by omega) (by omega))
        have hzl : zs.length = acc.length := by have := HO.out.eL.1; simpa using this
        have hnl : (acc.map (·.1)).length = acc.length := by simp
        by_cases hm : nm ∈ acc.map (·.1)
        · have hq : (acc.map (·.1)).idxOf nm < acc.length := by rw [← hnl]; exact List.idxOf_lt_length_of_mem hm
          have HIX : Hid (ix (acc.map (·.1)) nm = some (((acc.map (·.1)).idxOf nm : Nat) : Int)) := Lib.hid (by unfold ix; rw [if_pos hm])
          have HPN := Lib.hid (putP_names acc (nm, v) hm)
          have HPL : Hid ((putP acc (nm, v)).map (·.2) = (acc.map (·.2)).set ((acc.map (·.1)).idxOf nm) v) := Lib.hid (by
            have := putP_parts nm v acc HP.out.2.2.1
            rw [← this]
            unfold putP; rw [if_pos hm])
          obtain ⟨g, cap, rfl, -, -⟩ := HO.out.oL.opened (by omega)
          generalize (acc.map (·.1)).idxOf nm = q at *
          obtain ⟨z, hz⟩ : ∃ z, zs[q]? = some z := ⟨_, List.getElem?_eq_getElem (by omega)⟩
          have HZ := Lib.hid hz
          have hql : (q : Int) < (zs.length : Int) := by omega
          have hq0 : (0 : Int) ≤ (q : Int) := by omega
          have HZL := Lib.hid hzl
          clear hst HV3 hG hJ hrd hz hzl hnl
          go_enter Tryz.func65, Tryz.ntmps65
          go_wp2_with (first
            | (go_at_call 41; refine HS2.out.mono ?_; rintro e w2 ⟨hk2, rfl, hr2⟩; have o2 := HO.out.kb HR.out hk2; have a2 := o2.x1.c; have HB2 := Lib.hid (HB.out.trans (hk2.mono HB.out.size)); have HR2 := Lib.hid hr2; have HO2 := Lib.hid o2; have HS2a := Lib.hid hk2.size; clear o2 hk2 hr2)
            | (go_at_call 66; refine (HNN.out _ HR2.out).mono ?_; rintro e w3 ⟨hk3, rfl, hr3⟩; have o3 := HO2.out.kb HR2.out hk3; have a3 := o3.x1.c; have HB3 := Lib.hid (HB2.out.trans (hk3.mono HB2.out.size)); have HR3 := Lib.hid hr3; have HO3 := Lib.hid o3; have HS3a := Lib.hid hk3.size; clear o3 hk3 hr3)
            | (go_at_call 26; refine (HV4.out _ HR3.out HB3.out (Nat.le_trans hbs (Nat.le_trans HS2a.out HS3a.out))).mono ?_; rintro e w4 ⟨A, m, c, rfl, HV5, HR4, HK4⟩; have o4 := HO3.out.kb HR3.out HK4.out; have a4 := o4.xP.c; have l4 := o4.xL.c; have HB4 := Lib.hid (HB3.out.trans (HK4.out.mono HB3.out.size)); have HO4 := Lib.hid o4; have e4 : w4.cell? ⟨g, q, none⟩ = some (.slice z.1 z.2.1 z.2.2) := (by have := Own.cell slc_len (j := 0) o4.oL HZ.out rfl; rwa [Nat.mul_one, Nat.add_zero] at this); have f4 := o4.oL.free q; obtain ⟨D, hD, hVw⟩ := o4.map; have HH : Hid (Maps.has D (.string nm) = true) := Lib.hid (by rw [(hVw.2 nm).1, HIX.out]; rfl); have HVW := Lib.hid hVw; clear hVw o4)
            | (at_lookup; refine wpList_lookup_own_ok_int _ rfl _ _ 95 rfl 9 3 .i64 lawS Tryz.underlying95 Tryz.underlying3 (zeroS _) bm n D rfl hD _ _ rfl hkey ?_; intro cc hat hwc; rw [HH.out]; obtain rfl := HVW.out.hit HIX.out hat; clear hat hwc))
          first | go_end0 | refine bodyPost_ret (results_none rfl _ _ _) rfl ?_
          rw [HF.out]
          have hgl := HO4.out.oL.lt
          have hgr : g ≠ rb := fun e => HO4.out.oL.ne HR4.out (by decide) (by subst e; rfl)
          refine PtE.ok rfl (HB4.out.setHigh (by show base.heap.size ≤ g; omega) _) ⟨HPP.out, vN, .slice (some ⟨g, 0, none⟩) zs.length cap, zs.set q (A, m, c), n, by have := congrArg List.length HPN.out; rw [List.length_map, List.length_map] at this; omega, ?_⟩ (HR4.out.other hgr _)
          rw [HPN.out, HPL.out]
          exact HO4.out.putL HZ.out HV5.out
        · obtain ⟨A0, c0, rfl, hA0, hA1, -⟩ := HO.out.oL.form
          have HPN : Hid ((putP acc (nm, v)).map (·.1) = acc.map (·.1) ++ [nm] ∧ (putP acc (nm, v)).map (·.2) = acc.map (·.2) ++ [v] ∧ (putP acc (nm, v)).length = acc.length + 1) := Lib.hid (by rw [putP_new acc (nm, v) hm]; simp)
          have HIX : Hid (ix (acc.map (·.1)) nm = none) := Lib.hid (by unfold ix; rw [if_neg hm])
          have HIS : Hid (upS (ix (acc.map (·.1))) nm (zs.length : Nat) = ix (acc.map (·.1) ++ [nm])) := Lib.hid (by rw [hzl, ← hnl]; exact ix_snoc hm)
          have hacc : acc.length ≤ 50000 := by omega
          have hzb : zs.length ≤ 50000 := by omega
          have hwf : (Lit.int .i64 (zs.length : Int)).wf = true := i64_wf (by omega) (by omega)
          have HZL := Lib.hid hzl
          clear hst HV3 hG hJ hrd hzl hnl
          go_enter Tryz.func65, Tryz.ntmps65
          go_wp2_with (first
            | (go_at_call 41; refine HS2.out.mono ?_; rintro e w2 ⟨hk2, rfl, hr2⟩; have o2 := HO.out.kb HR.out hk2; have a2 := o2.x1.c; have HB2 := Lib.hid (HB.out.trans (hk2.mono HB.out.size)); have HR2 := Lib.hid hr2; have HO2 := Lib.hid o2; have HS2a := Lib.hid hk2.size; clear o2 hk2 hr2)
            | (go_at_call 66; refine (HNN.out _ HR2.out).mono ?_; rintro e w3 ⟨hk3, rfl, hr3⟩; have o3 := HO2.out.kb HR2.out hk3; have a3 := o3.x1.c; have HB3 := Lib.hid (HB2.out.trans (hk3.mono HB2.out.size)); have HR3 := Lib.hid hr3; have HO3 := Lib.hid o3; have HS3a := Lib.hid hk3.size; clear o3 hk3 hr3)
            | (go_at_call 26; refine (HV4.out _ HR3.out HB3.out (Nat.le_trans hbs (Nat.le_trans HS2a.out HS3a.out))).mono ?_; rintro e w4 ⟨A, m, c, rfl, HV5, HR4, HK4⟩; have o4 := HO3.out.kb HR3.out HK4.out; have a4 := o4.xP.c; have l4 := o4.xL.c; have HB4 := Lib.hid (HB3.out.trans (HK4.out.mono HB3.out.size)); have HO4 := Lib.hid o4; obtain ⟨D, hD, hVw⟩ := o4.map; have HH : Hid (Maps.has D (.string nm) = false) := Lib.hid (by rw [(hVw.2 nm).1, HIX.out]; rfl); have HVW := Lib.hid hVw; have HS4a := Lib.hid HK4.out.size; clear hVw o4)
            | (at_lookup; refine wpList_lookup_own_ok_int _ rfl _ _ 95 rfl 9 3 .i64 lawS Tryz.underlying95 Tryz.underlying3 (zeroS _) bm n D rfl hD _ _ rfl hkey ?_; intro cc hat hwc; rw [HH.out]; clear hat hwc)
            | (at_mapUpdate; refine wpList_mapUpdate_own _ rfl _ _ _ 95 rfl 9 3 lawS Tryz.underlying95 _ bm n D rfl hD (by unfold maxLen; omega) _ _ _ rfl rfl hkey _ [] (plainElem_int Tryz.underlying3 hwf) ?_; intro w5 hmap5 hgrow5))
          obtain ⟨es, clock, hmb⟩ := HO4.out.map.blk
          have hbd : Bfd base s k2 d b0 b1 bN bL bP bm (n + 1) rb vN (.slice A0 zs.length c0) (ix (acc.map (·.1) ++ [nm])) A m c v w5.drew vN (acc.map (·.1)) (.slice A0 zs.length c0) zs (acc.map (·.2)) :=
            ⟨(HB4.out.grown hgrow5 HB4.out.size (fun j hj => by injection hj with hj; omega)).drew, (show Rd rb s k2 d w5.drew from kept_map hmb hgrow5 HR4.out), (HV5.out.map hmb hgrow5).drew, (HO4.out.upd ⟨_, hmap5, by rw [← HIS.out]; exact HVW.out.put nm _⟩ hgrow5).drew⟩
          obtain ⟨d1, d2, d3, d4, -, -, d7, d8, d9, d10⟩ := hbd.cells
          replace d1 : w5.cell? ⟨bN, 0, none⟩ = some vN := d1
          replace d2 : w5.cell? ⟨bL, 0, none⟩ = some (.slice A0 zs.length c0) := d2
          replace d3 : w5.frozen? ⟨bN, 0, none⟩ = false := d3
          replace d4 : w5.frozen? ⟨bL, 0, none⟩ = false := d4
          replace d7 : bN < w5.heap.size := d7
          replace d8 : bL < w5.heap.size := d8
          have d5 : ¬ bN = w5.heap.size := by omega
          have d6 : ¬ bL = w5.heap.size := by omega
          have d5' : ¬ bN = w5.heap.size + 1 := by omega
          have d6' : ¬ bL = w5.heap.size + 1 := by omega
          have HBN : Hid ((acc.map (·.1)).length + 1 ≤ maxLen) := Lib.hid (by rw [List.length_map]; unfold maxLen; omega)
          have HBN2 : Hid (((acc.map (·.1)).length + 1) * 16 ≤ 140737488355328) := Lib.hid (by rw [List.length_map]; omega)
          have HBL : Hid (zs.length + 1 ≤ maxLen) := Lib.hid (by unfold maxLen; omega)
          have HBL2 : Hid ((zs.length + 1) * 24 ≤ 140737488355328) := Lib.hid (by omega)
          obtain ⟨ist, hist, hs0, hs1, hs2⟩ := info_parts string_info
          obtain ⟨iv, hiv, hz0, hz1, hz2⟩ := info_parts val_info
          have HNL : Hid (n + 1 ≤ (putP acc (nm, v)).length) := Lib.hid (by have := HPN.out.2.2; omega)
          clear HO HO2 HO3 HO4 HV4 HV5 HVW HIS HIX HB HB2 HB3 HB4 HR HR2 HR3 HR4 HK4 HS2 HNN HS2a HS3a HS4a hmb hmap5 hgrow5 hD a1 a2 a3 a4 l4
          generalize hns : acc.map (·.1) = ns at *
          have HNS := Lib.hid hns
          clear hns
          go_upto_region 7 with fail
          go_region_law (first
            | (refine step_append_lies _ (by rfl) _ _ _ (by rfl) b0 _ ist (.string ⟨#[]⟩) 1 16 Tryz.underlying46 hist hs0 hs1 hs2 (by decide) (by decide) vN ns.length (ns.flatMap stc) (by rfl) (show Own stc 1 9 b0 _ vN ns from (Bfd.ob (by first | assumption | exact Bfd.alD (by assumption) _ | exact Bfd.alD2 (by assumption) _ _ | exact Bfd.alloc (by assumption) _ | exact Bfd.alloc2 (by assumption) _ _)).oN) _ 1 1 [.string ⟨nm.toArray⟩] (by rfl) (by rfl) (World.news_of_block (by first | exact new_at (by simp) | exact new_at2 (by simp) | exact HKL.out _ _ _ _ (new_at (by simp)) (by decide) | exact HKL.out _ _ _ _ (new_at2 (by simp)) (by decide))) (by intro u hu; simp at hu; subst hu; rfl) (by decide) HBN.out HBN2.out (Nat.le_trans hb00 (Bfd.kb (by first | assumption | exact Bfd.alD (by assumption) _ | exact Bfd.alD2 (by assumption) _ _ | exact Bfd.alloc (by assumption) _ | exact Bfd.alloc2 (by assumption) _ _)).size) _ rfl ?_; intro gN capN w6 hownN hgrN hatN hltN; have hbd6 := Bfd.appN (by first | assumption | exact Bfd.alD (by assumption) _ | exact Bfd.alD2 (by assumption) _ _ | exact Bfd.alloc (by assumption) _ | exact Bfd.alloc2 (by assumption) _ _) hb0 hownN hgrN; obtain ⟨n1, n2, n3, n4, n5, n6, n7, n8, -, -⟩ := hbd6.cells; have n5' : ¬ bN = w6.heap.size + 1 := (by omega); have n6' : ¬ bL = w6.heap.size + 1 := (by omega); have HKN := Lib.hid (fun (B T : Nat) (cs : Array Value) (fz : Nat × Nat) h hT => keptT (b := B) (T := T) (cs := cs) (fz := fz) (Bfd.ob (by first | assumption | exact Bfd.alD (by assumption) _ | exact Bfd.alD2 (by assumption) _ _ | exact Bfd.alloc (by assumption) _ | exact Bfd.alloc2 (by assumption) _ _)).oN hgrN h hT); clear hownN hgrN hatN hltN)
            | (refine step_append_lies _ (by rfl) _ _ _ (by rfl) b0 _ iv (.slice none 0 0) 1 24 Tryz.underlying47 hiv hz0 hz1 hz2 (by decide) (by decide) (.slice A0 zs.length c0) zs.length (zs.flatMap slc) (by rfl) (show Own slc 1 24 b0 _ (.slice A0 zs.length c0) zs from (Bfd.ob (by first | assumption | exact Bfd.alD (by assumption) _ | exact Bfd.alD2 (by assumption) _ _ | exact Bfd.alloc (by assumption) _ | exact Bfd.alloc2 (by assumption) _ _)).oL) _ 1 1 [.slice A m c] (by rfl) (by rfl) (World.news_of_block (by first | exact new_at (by simp) | exact new_at2 (by simp) | exact HKN.out _ _ _ _ (new_at (by simp)) (by decide) | exact HKN.out _ _ _ _ (new_at2 (by simp)) (by decide))) (by intro u hu; simp at hu; subst hu; rfl) (by decide) HBL.out HBL2.out (Nat.le_trans hb00 (Bfd.kb (by first | assumption | exact Bfd.alD (by assumption) _ | exact Bfd.alD2 (by assumption) _ _ | exact Bfd.alloc (by assumption) _ | exact Bfd.alloc2 (by assumption) _ _)).size) _ rfl ?_; intro gL capL w7 hownL hgrL hatL hltL; have hbd7 := Bfd.appL (by first | assumption | exact Bfd.alD (by assumption) _ | exact Bfd.alD2 (by assumption) _ _ | exact Bfd.alloc (by assumption) _ | exact Bfd.alloc2 (by assumption) _ _) hb0 hownL hgrL; obtain ⟨o1, o2, o3, o4, o5, o6, o7, o8, -, -⟩ := hbd7.cells; have o5' : ¬ bN = w7.heap.size + 1 := (by omega); have o6' : ¬ bL = w7.heap.size + 1 := (by omega); have HKL := Lib.hid (fun (B T : Nat) (cs : Array Value) (fz : Nat × Nat) h hT => keptT (b := B) (T := T) (cs := cs) (fz := fz) (Bfd.ob (by first | assumption | exact Bfd.alD (by assumption) _ | exact Bfd.alD2 (by assumption) _ _ | exact Bfd.alloc (by assumption) _ | exact Bfd.alloc2 (by assumption) _ _)).oL hgrL h hT); clear hownL hgrL hatL hltL))
          all_goals go_end0
          all_goals rw [HF.out]
          all_goals first
            | exact ob_end hbd7 hbN hbL HPN.out.1 HPN.out.2.1 HPP.out HNL.out
            | exact ob_end' hbd7 hbN hbL HPN.out.1 HPN.out.2.1 HPP.out HNL.out
end Go.Proofs.YtbgciajfjllciaaGreatDoor
