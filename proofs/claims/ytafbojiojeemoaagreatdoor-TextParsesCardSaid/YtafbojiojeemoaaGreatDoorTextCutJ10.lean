/-
  Joined: TxB, TxC, TxE, TxF.
-/
import Derived.Test.YtafbojiojeemoaaGreatDoorTextCutJ9
import Derived.LoopN
import Derived.Test.YtafbojiojeemoaaGreatDoorTextCutJ8
import Derived.Test.YtafbojiojeemoaaGreatDoorTextCutJ2

/-
  What the reader's word is.
-/
namespace Go.Proofs.YtafbojiojeemoaaGreatDoor
open Go.RowKit Np Up Qp Tp

/-- The words, as the package lays them. -/
def Wds (w : World) : Prop := w.cell? ⟨0, 0, none⟩ = some (.string ⟨wNull.toArray⟩) ∧ w.cell? ⟨0, 1, none⟩ = some (.string ⟨wFalse.toArray⟩) ∧ w.cell? ⟨0, 2, none⟩ = some (.string ⟨wTrue.toArray⟩)
theorem Wds.below {w w' : World} (h : Wds w) (hb : Below w.heap.size w w') : Wds w' := by
  have hlt := World.block_lt_of_cell? _ _ h.1
  exact ⟨(hb.cell (p := ⟨0, 0, none⟩) hlt).trans h.1, (hb.cell (p := ⟨0, 1, none⟩) hlt).trans h.2.1, (hb.cell (p := ⟨0, 2, none⟩) hlt).trans h.2.2⟩

set_option maxRecDepth 100000 in
set_option maxHeartbeats 4000000 in
theorem rdWord_any (rb : Nat) (s : ByteArray) (T d : Nat) (w : World) (hr : Rd rb s T d w) (hT : T ≤ s.size) (hs : s.size ≤ 400000) (hW : Wds w) :
    Calls Tryz.prog 58 #[.pointer (some ⟨rb, 0, none⟩)] w (NdE rb s d w (woR s.data.toList T)) := by
  have hcut := cut_end s T
  have hP0 := fun w => Tryz.strings_HasPrefix (s.extract T s.size) ⟨#[110, 117, 108, 108]⟩ w
  have hP1 := fun w => Tryz.strings_HasPrefix (s.extract T s.size) ⟨#[102, 97, 108, 115, 101]⟩ w
  have hP2 := fun w => Tryz.strings_HasPrefix (s.extract T s.size) ⟨#[116, 114, 117, 101]⟩ w
  rw [hcut] at hP0 hP1 hP2
  have HRR : Hid (woR s.data.toList T = if Lib.hasPrefix (s.data.toList.drop T) wNull = true then .ok [hdN 0 0] (T + 4) else if Lib.hasPrefix (s.data.toList.drop T) wFalse = true then .ok [hdN 1 0] (T + 5) else if Lib.hasPrefix (s.data.toList.drop T) wTrue = true then .ok [hdN 2 0] (T + 4) else .bad 1 T) := Lib.hid rfl
  have HL : Hid (∀ k : Nat, ∀ x : List UInt8, x.length = k → 0 < k → Lib.hasPrefix (s.data.toList.drop T) x = true → T + k ≤ 400000) := Lib.hid (fun k x hk h0 h => by
    have h1 : x.length ≤ (s.data.toList.drop T).length := by
      unfold Lib.hasPrefix at h
      exact (List.isPrefixOf_iff_prefix.1 h).length_le
    rw [List.length_drop, size_toList] at h1
    omega)
  have hl0 := HL.out 4 wNull rfl (by decide)
  have hl1 := HL.out 5 wFalse rfl (by decide)
  have hl2 := HL.out 4 wTrue rfl (by decide)
  change ∀ w, Calls _ _ _ _ (fun e w' => e = .returned (.bool (Lib.hasPrefix (s.data.toList.drop T) wNull)) ∧ w' = w) at hP0
  change ∀ w, Calls _ _ _ _ (fun e w' => e = .returned (.bool (Lib.hasPrefix (s.data.toList.drop T) wFalse)) ∧ w' = w) at hP1
  change ∀ w, Calls _ _ _ _ (fun e w' => e = .returned (.bool (Lib.hasPrefix (s.data.toList.drop T) wTrue)) ∧ w' = w) at hP2
  generalize Lib.hasPrefix (s.data.toList.drop T) wNull = P0 at *
  generalize Lib.hasPrefix (s.data.toList.drop T) wFalse = P1 at *
  generalize Lib.hasPrefix (s.data.toList.drop T) wTrue = P2 at *
  generalize woR s.data.toList T = R at *
  have H0 := Lib.hid hP0
  have H1 := Lib.hid hP1
  have H2 := Lib.hid hP2
  clear hP0 hP1 hP2 HL hcut
  have c0 := hr.c0
  have c1 := hr.c1
  have f1 := hr.fz 1
  have hlt := hr.lt
  have hne : ¬ rb = w.heap.size := by omega
  have hwl : 0 < w.heap.size := World.block_lt_of_cell? _ _ hW.1
  obtain ⟨w0, w1, w2⟩ := hW
  simp only [wNull] at w0
  simp only [wFalse] at w1
  simp only [wTrue] at w2
  have hi0 : ∀ w, (Instr.index 101 (.agg #[.string ⟨#[110, 117, 108, 108]⟩, .string ⟨#[102, 97, 108, 115, 101]⟩, .string ⟨#[116, 114, 117, 101]⟩]) (.int .i64 0)).run Tryz.prog w = .ok (.string ⟨#[110, 117, 108, 108]⟩) w := fun _ => by kernel_rfl
  have hi1 : ∀ w, (Instr.index 101 (.agg #[.string ⟨#[110, 117, 108, 108]⟩, .string ⟨#[102, 97, 108, 115, 101]⟩, .string ⟨#[116, 114, 117, 101]⟩]) (.int .i64 1)).run Tryz.prog w = .ok (.string ⟨#[102, 97, 108, 115, 101]⟩) w := fun _ => by kernel_rfl
  have hi2 : ∀ w, (Instr.index 101 (.agg #[.string ⟨#[110, 117, 108, 108]⟩, .string ⟨#[102, 97, 108, 115, 101]⟩, .string ⟨#[116, 114, 117, 101]⟩]) (.int .i64 2)).run Tryz.prog w = .ok (.string ⟨#[116, 114, 117, 101]⟩) w := fun _ => by kernel_rfl
  have hnr : w.heap.size ≠ rb := fun e => hne e.symm
  have KK0 : ∀ (m : Nat) {t : Value} {v0 v1 v2 v3 v4 v5 : Value}, Kb w.heap.size rb w ((((((((((w.alloc (.cells #[.int .i64 0, .int .i64 0, .string ⟨#[]⟩, .string ⟨#[]⟩, .bool false, .int .i64 0] 35)).drewN m).setCell ⟨rb, 1, none⟩ t).setCell ⟨w.heap.size, 0, none⟩ v0).setCell ⟨w.heap.size, 1, none⟩ v1).setCell ⟨w.heap.size, 2, none⟩ v2).setCell ⟨w.heap.size, 3, none⟩ v3).setCell ⟨w.heap.size, 4, none⟩ v4).setCell ⟨w.heap.size, 5, none⟩ v5)) := fun m t v0 v1 v2 v3 v4 v5 =>
    ((((((((((Kb.refl _ _ _).alloc (Nat.le_refl _) _).drewN m).set 1 _).setHigh (Nat.le_refl _) _).setHigh (Nat.le_refl _) _).setHigh (Nat.le_refl _) _).setHigh (Nat.le_refl _) _).setHigh (Nat.le_refl _) _).setHigh (Nat.le_refl _) _)
  have RR0 : ∀ (k m : Nat) {v0 v1 v2 v3 v4 v5 : Value}, Rd rb s (T + k) d ((((((((((w.alloc (.cells #[.int .i64 0, .int .i64 0, .string ⟨#[]⟩, .string ⟨#[]⟩, .bool false, .int .i64 0] 35)).drewN m).setCell ⟨rb, 1, none⟩ (.int .i64 ((T + k : Nat) : Int))).setCell ⟨w.heap.size, 0, none⟩ v0).setCell ⟨w.heap.size, 1, none⟩ v1).setCell ⟨w.heap.size, 2, none⟩ v2).setCell ⟨w.heap.size, 3, none⟩ v3).setCell ⟨w.heap.size, 4, none⟩ v4).setCell ⟨w.heap.size, 5, none⟩ v5)) := fun k m v0 v1 v2 v3 v4 v5 =>
    ((((((((((hr.alloc _).drewN m).to (T + k)).other hnr _).other hnr _).other hnr _).other hnr _).other hnr _).other hnr _))
  have KP0 : ∀ m : Nat, Kb w.heap.size rb w ((w.alloc (.cells #[.int .i64 0, .int .i64 0, .string ⟨#[]⟩, .string ⟨#[]⟩, .bool false, .int .i64 0] 35)).drewN m) := fun m => ((Kb.refl _ _ _).alloc (Nat.le_refl _) _).drewN m
  have KK := Lib.hid KK0
  have RR := Lib.hid RR0
  have KP := Lib.hid KP0
  clear KK0 RR0 KP0
  clear hr
  go_enter Tryz.func58, Tryz.ntmps58
  go_wp2_with fail
  cases P0 with
  | true =>
    have hl0 := hl0 rfl
    have HRS : Hid (R = .ok [hdN 0 0] (T + 4)) := Lib.hid (by rw [HRR.out]; rfl)
    clear hl1 hl2
    refine wp_loop_rounds 4 ?_
    rw [rounds_succ]
    go_wp2_with fail
    go_quiet ((go_at_call 82; first | exact Calls.quiet_of_same (H0.out _) | exact (H0.out _).mono (fun e w'' h => ⟨h.1, _, h.2⟩)))
    go_wp2_with fail
    refine bodyPost_ret (v := nda (hdN 0 0)) ?_ rfl (NdE.ok HRS.out ?_ ?_)
    · simp [results, Tryz.results58, go_sem, nda, hdN]
    · exact KK.out _
    · exact RR.out 4 _
  | false =>
    cases P1 with
    | true =>
      have hl1 := hl1 rfl
      have HRS : Hid (R = .ok [hdN 1 0] (T + 5)) := Lib.hid (by rw [HRR.out]; rfl)
      clear hl0 hl2
      refine wp_loop_rounds 4 ?_
      rw [rounds_succ]
      go_wp2_with fail
      go_quiet ((go_at_call 82; first | exact Calls.quiet_of_same (H0.out _) | exact (H0.out _).mono (fun e w'' h => ⟨h.1, _, h.2⟩)))
      go_wp2_with fail
      rw [rounds_succ]
      go_wp2_with fail
      go_quiet ((go_at_call 82; first | exact Calls.quiet_of_same (H1.out _) | exact (H1.out _).mono (fun e w'' h => ⟨h.1, _, h.2⟩)))
      go_wp2_with fail
      refine bodyPost_ret (v := nda (hdN 1 0)) ?_ rfl (NdE.ok HRS.out ?_ ?_)
      · simp [results, Tryz.results58, go_sem, nda, hdN]
      · exact KK.out _
      · exact RR.out 5 _
    | false =>
      cases P2 with
      | true =>
        have hl2 := hl2 rfl
        have HRS : Hid (R = .ok [hdN 2 0] (T + 4)) := Lib.hid (by rw [HRR.out]; rfl)
        clear hl0 hl1
        refine wp_loop_rounds 4 ?_
        rw [rounds_succ]
        go_wp2_with fail
        go_quiet ((go_at_call 82; first | exact Calls.quiet_of_same (H0.out _) | exact (H0.out _).mono (fun e w'' h => ⟨h.1, _, h.2⟩)))
        go_wp2_with fail
        rw [rounds_succ]
        go_wp2_with fail
        go_quiet ((go_at_call 82; first | exact Calls.quiet_of_same (H1.out _) | exact (H1.out _).mono (fun e w'' h => ⟨h.1, _, h.2⟩)))
        go_wp2_with fail
        rw [rounds_succ]
        go_wp2_with fail
        go_quiet ((go_at_call 82; first | exact Calls.quiet_of_same (H2.out _) | exact (H2.out _).mono (fun e w'' h => ⟨h.1, _, h.2⟩)))
        go_wp2_with fail
        refine bodyPost_ret (v := nda (hdN 2 0)) ?_ rfl (NdE.ok HRS.out ?_ ?_)
        · simp [results, Tryz.results58, go_sem, nda, hdN]
        · exact KK.out _
        · exact RR.out 4 _
      | false =>
        have HRS : Hid (R = .bad 1 T) := Lib.hid (by rw [HRR.out]; rfl)
        clear hl0 hl1 hl2
        refine wp_loop_rounds 4 ?_
        rw [rounds_succ]
        go_wp2_with fail
        go_quiet ((go_at_call 82; first | exact Calls.quiet_of_same (H0.out _) | exact (H0.out _).mono (fun e w'' h => ⟨h.1, _, h.2⟩)))
        go_wp2_with fail
        rw [rounds_succ]
        go_wp2_with fail
        go_quiet ((go_at_call 82; first | exact Calls.quiet_of_same (H1.out _) | exact (H1.out _).mono (fun e w'' h => ⟨h.1, _, h.2⟩)))
        go_wp2_with fail
        rw [rounds_succ]
        go_wp2_with fail
        go_quiet ((go_at_call 82; first | exact Calls.quiet_of_same (H2.out _) | exact (H2.out _).mono (fun e w'' h => ⟨h.1, _, h.2⟩)))
        go_wp2_with fail
        rw [rounds_succ]
        go_wp2_with fail
        exact ⟨rfl, NdE.flt HRS.out _ rfl (KP.out _)⟩
end Go.Proofs.YtafbojiojeemoaaGreatDoor

/-
  What the reader's value is.
-/
namespace Go.Proofs.YtafbojiojeemoaaGreatDoor
open Go.RowKit Np Rw Vp Up Qp Tp

theorem own_one {w : World} {B : Nat} (n : Nd) (hB : B ≤ w.heap.size) : OwnN B (w.alloc (.cells #[.int .i64 n.kind, .int .i64 n.many, .string ⟨n.name.toArray⟩, .string ⟨n.s.toArray⟩, .bool n.neg, .int .i64 n.e] 35)) (.slice (some ⟨w.heap.size, 0, none⟩) 1 1) [n] :=
  Own.lit (base := B) ndc_len w _ [n] hB (by unfold maxLen; simp) (by simp [ndc])

set_option maxRecDepth 100000 in
set_option maxHeartbeats 4000000 in
theorem value_of (arr obj : Nat → Rs (List Nd)) (rb : Nat) (s : ByteArray) (i d : Nat) (w : World) (hr : Rd rb s i d w) (hi : i ≤ s.size) (hs : s.size ≤ 400000)
    (hE : ∀ w', Kb w.heap.size rb w w' → Er w') (hW : ∀ w', Kb w.heap.size rb w w' → Wds w')
    (HL : ∀ W, bt s.data.toList (sk s.data.toList i) = 91 → Rd rb s (sk s.data.toList i) d W → Kb w.heap.size rb w W → Calls Tryz.prog 54 #[.pointer (some ⟨rb, 0, none⟩)] W (VlE rb s d W (arr (sk s.data.toList i))))
    (HO : ∀ W, bt s.data.toList (sk s.data.toList i) = 123 → Rd rb s (sk s.data.toList i) d W → Kb w.heap.size rb w W → Calls Tryz.prog 55 #[.pointer (some ⟨rb, 0, none⟩)] W (VlE rb s d W (obj (sk s.data.toList i)))) :
    Calls Tryz.prog 30 #[.pointer (some ⟨rb, 0, none⟩)] w (VlE rb s d w (vl1 s.data.toList arr obj (sk s.data.toList i))) := by
  have HX := Lib.hid (next_any rb s i d w hr hi hs)
  have hT : sk s.data.toList i ≤ s.size := sk_le (S := s.data.toList) hi
  have HST : Hid (∀ W, Rd rb s (sk s.data.toList i) d W → Kb w.heap.size rb w W → Calls Tryz.prog 56 #[.pointer (some ⟨rb, 0, none⟩)] W (StE rb s d W (stR s.data.toList (sk s.data.toList i)))) := Lib.hid (fun W h1 h2 => by
    have := str_any rb s (sk s.data.toList i) d W h1 hT hs (fun w' h => hE w' (h2.trans (h.mono h2.size)))
    rwa [sk_sk] at this)
  have HNU : Hid (∀ W, Rd rb s (sk s.data.toList i) d W → Calls Tryz.prog 57 #[.pointer (some ⟨rb, 0, none⟩)] W (NdE rb s d W (nuR s.data.toList (sk s.data.toList i)))) := Lib.hid (fun W h1 => rdNumber_any rb s (sk s.data.toList i) d W h1 hT hs)
  have HWO : Hid (∀ W, Rd rb s (sk s.data.toList i) d W → Kb w.heap.size rb w W → Calls Tryz.prog 58 #[.pointer (some ⟨rb, 0, none⟩)] W (NdE rb s d W (woR s.data.toList (sk s.data.toList i)))) := Lib.hid (fun W h1 h2 => rdWord_any rb s (sk s.data.toList i) d W h1 hT hs (hW W h2))
  have HLL := Lib.hid HL
  have HOO := Lib.hid HO
  have HRR : Hid (vl1 s.data.toList arr obj (sk s.data.toList i) = if bt s.data.toList (sk s.data.toList i) = 91 then arr (sk s.data.toList i) else if bt s.data.toList (sk s.data.toList i) = 123 then obj (sk s.data.toList i) else if bt s.data.toList (sk s.data.toList i) = 34 then mapR strV (stR s.data.toList (sk s.data.toList i))
    else if bt s.data.toList (sk s.data.toList i) = 45 ∨ 48 ≤ bt s.data.toList (sk s.data.toList i) ∧ bt s.data.toList (sk s.data.toList i) ≤ 57 then nuR s.data.toList (sk s.data.toList i) else woR s.data.toList (sk s.data.toList i)) := Lib.hid rfl
  clear HL HO hE hW hr hT
  generalize vl1 s.data.toList arr obj (sk s.data.toList i) = R at *
  generalize stR s.data.toList (sk s.data.toList i) = RS at *
  generalize nuR s.data.toList (sk s.data.toList i) = RN at *
  generalize woR s.data.toList (sk s.data.toList i) = RW at *
  generalize bt s.data.toList (sk s.data.toList i) = c at *
  generalize arr (sk s.data.toList i) = RA at *
  generalize obj (sk s.data.toList i) = RO at *
  generalize sk s.data.toList i = T at *
  by_cases h1 : c = 91
  · subst h1
    have HL1 := Lib.hid (fun W => HLL.out W rfl)
    clear HLL HOO
    have HRS : Hid (R = RA) := Lib.hid (by rw [HRR.out, if_pos rfl])
    cases RA with
    | bad er p =>
      go_enter Tryz.func30, Tryz.ntmps30
      go_wp2_with (first
        | (go_at_call 31; refine HX.out.mono ?_; rintro e w1 ⟨rfl, hr1, hk1⟩; have HR1 := Lib.hid hr1; have HK1 := Lib.hid hk1; clear hr1 hk1)
        | (go_at_call 54; refine (HL1.out _ HR1.out HK1.out).mono ?_; rintro e w2 ⟨hk2, he⟩; unfold flt at he; subst he))
      exact ⟨rfl, VlE.bad HRS.out (HK1.out.after hk2)⟩
    | ok v k =>
      go_enter Tryz.func30, Tryz.ntmps30
      go_wp2_with (first
        | (go_at_call 31; refine HX.out.mono ?_; rintro e w1 ⟨rfl, hr1, hk1⟩; have HR1 := Lib.hid hr1; have HK1 := Lib.hid hk1; clear hr1 hk1)
        | (go_at_call 54; refine (HL1.out _ HR1.out HK1.out).mono ?_; rintro e w2 ⟨hk2, V, rfl, hV, hr2⟩))
      go_ret
      exact VlE.ok HRS.out (HK1.out.after hk2) (hV.mono HK1.out.size) hr2
  by_cases h2 : c = 123
  · subst h2
    have HO1 := Lib.hid (fun W => HOO.out W rfl)
    clear HLL HOO
    have HRS : Hid (R = RO) := Lib.hid (by rw [HRR.out, if_neg (by decide), if_pos rfl])
    cases RO with
    | bad er p =>
      go_enter Tryz.func30, Tryz.ntmps30
      go_wp2_with (first
        | (go_at_call 31; refine HX.out.mono ?_; rintro e w1 ⟨rfl, hr1, hk1⟩; have HR1 := Lib.hid hr1; have HK1 := Lib.hid hk1; clear hr1 hk1)
        | (go_at_call 55; refine (HO1.out _ HR1.out HK1.out).mono ?_; rintro e w2 ⟨hk2, he⟩; unfold flt at he; subst he))
      exact ⟨rfl, VlE.bad HRS.out (HK1.out.after hk2)⟩
    | ok v k =>
      go_enter Tryz.func30, Tryz.ntmps30
      go_wp2_with (first
        | (go_at_call 31; refine HX.out.mono ?_; rintro e w1 ⟨rfl, hr1, hk1⟩; have HR1 := Lib.hid hr1; have HK1 := Lib.hid hk1; clear hr1 hk1)
        | (go_at_call 55; refine (HO1.out _ HR1.out HK1.out).mono ?_; rintro e w2 ⟨hk2, V, rfl, hV, hr2⟩))
      go_ret
      exact VlE.ok HRS.out (HK1.out.after hk2) (hV.mono HK1.out.size) hr2
  by_cases h3 : c = 34
  · subst h3
    have HRS : Hid (R = mapR strV RS) := Lib.hid (by rw [HRR.out, if_neg (by decide), if_neg (by decide), if_pos rfl])
    cases RS with
    | bad er p =>
      go_enter Tryz.func30, Tryz.ntmps30
      go_wp2_with (first
        | (go_at_call 31; refine HX.out.mono ?_; rintro e w1 ⟨rfl, hr1, hk1⟩; have HR1 := Lib.hid hr1; have HK1 := Lib.hid hk1; clear hr1 hk1)
        | (go_at_call 56; refine (HST.out _ HR1.out HK1.out).mono ?_; rintro e w2 ⟨hk2, he⟩; unfold flt at he; subst he))
      exact ⟨rfl, VlE.bad HRS.out (HK1.out.after hk2)⟩
    | ok v k =>
      go_enter Tryz.func30, Tryz.ntmps30
      go_wp2_with (first
        | (go_at_call 31; refine HX.out.mono ?_; rintro e w1 ⟨rfl, hr1, hk1⟩; have HR1 := Lib.hid hr1; have HK1 := Lib.hid hk1; clear hr1 hk1)
        | (go_at_call 56; refine (HST.out _ HR1.out HK1.out).mono ?_; rintro e w2 ⟨hk2, rfl, hr2⟩))
      go_ret
      exact VlE.ok HRS.out ((HK1.out.after hk2).alloc (HK1.out.after hk2).size _) (own_one ⟨4, 0, [], v, false, 0⟩ (HK1.out.after hk2).size) (hr2.alloc _)
  by_cases h4 : c = 45 ∨ 48 ≤ c ∧ c ≤ 57
  · have HRS : Hid (R = RN) := Lib.hid (by rw [HRR.out, if_neg h1, if_neg h2, if_neg h3, if_pos h4])
    clear HLL HOO HRR
    by_cases h5 : c = 45
    · subst h5
      clear h1 h2 h3 h4
      cases RN with
      | bad er p =>
        go_enter Tryz.func30, Tryz.ntmps30
        go_wp2_with (first
          | (go_at_call 31; refine HX.out.mono ?_; rintro e w1 ⟨rfl, hr1, hk1⟩; have HR1 := Lib.hid hr1; have HK1 := Lib.hid hk1; clear hr1 hk1)
          | (go_at_call 57; refine (HNU.out _ HR1.out).mono ?_; rintro e w2 ⟨hk2, he⟩; unfold flt at he; subst he))
        exact ⟨rfl, VlE.bad HRS.out (HK1.out.after hk2)⟩
      | ok v k =>
        go_enter Tryz.func30, Tryz.ntmps30
        go_wp2_with (first
          | (go_at_call 31; refine HX.out.mono ?_; rintro e w1 ⟨rfl, hr1, hk1⟩; have HR1 := Lib.hid hr1; have HK1 := Lib.hid hk1; clear hr1 hk1)
          | (go_at_call 57; refine (HNU.out _ HR1.out).mono ?_; rintro e w2 ⟨hk2, n, rfl, rfl, hr2⟩))
        go_ret
        exact VlE.ok HRS.out ((HK1.out.after hk2).alloc (HK1.out.after hk2).size _) (own_one n (HK1.out.after hk2).size) (hr2.alloc _)
    · have h6 : 48 ≤ c ∧ c ≤ 57 := by omega
      obtain ⟨h7, h8⟩ := h6
      clear h4
      cases RN with
      | bad er p =>
        go_enter Tryz.func30, Tryz.ntmps30
        go_wp2_with (first
          | (go_at_call 31; refine HX.out.mono ?_; rintro e w1 ⟨rfl, hr1, hk1⟩; have HR1 := Lib.hid hr1; have HK1 := Lib.hid hk1; clear hr1 hk1)
          | (go_at_call 57; refine (HNU.out _ HR1.out).mono ?_; rintro e w2 ⟨hk2, he⟩; unfold flt at he; subst he))
        exact ⟨rfl, VlE.bad HRS.out (HK1.out.after hk2)⟩
      | ok v k =>
        go_enter Tryz.func30, Tryz.ntmps30
        go_wp2_with (first
          | (go_at_call 31; refine HX.out.mono ?_; rintro e w1 ⟨rfl, hr1, hk1⟩; have HR1 := Lib.hid hr1; have HK1 := Lib.hid hk1; clear hr1 hk1)
          | (go_at_call 57; refine (HNU.out _ HR1.out).mono ?_; rintro e w2 ⟨hk2, n, rfl, rfl, hr2⟩))
        go_ret
        exact VlE.ok HRS.out ((HK1.out.after hk2).alloc (HK1.out.after hk2).size _) (own_one n (HK1.out.after hk2).size) (hr2.alloc _)
  · have HRS : Hid (R = RW) := Lib.hid (by rw [HRR.out, if_neg h1, if_neg h2, if_neg h3, if_neg h4])
    clear HLL HOO HRR
    have h5 : ¬ c = 45 := fun e => h4 (.inl e)
    by_cases h6 : c < 48
    · clear h4
      cases RW with
      | bad er p =>
        go_enter Tryz.func30, Tryz.ntmps30
        go_wp2_with (first
          | (go_at_call 31; refine HX.out.mono ?_; rintro e w1 ⟨rfl, hr1, hk1⟩; have HR1 := Lib.hid hr1; have HK1 := Lib.hid hk1; clear hr1 hk1)
          | (go_at_call 58; refine (HWO.out _ HR1.out HK1.out).mono ?_; rintro e w2 ⟨hk2, he⟩; unfold flt at he; subst he))
        exact ⟨rfl, VlE.bad HRS.out (HK1.out.after hk2)⟩
      | ok v k =>
        go_enter Tryz.func30, Tryz.ntmps30
        go_wp2_with (first
          | (go_at_call 31; refine HX.out.mono ?_; rintro e w1 ⟨rfl, hr1, hk1⟩; have HR1 := Lib.hid hr1; have HK1 := Lib.hid hk1; clear hr1 hk1)
          | (go_at_call 58; refine (HWO.out _ HR1.out HK1.out).mono ?_; rintro e w2 ⟨hk2, n, rfl, rfl, hr2⟩))
        go_ret
        exact VlE.ok HRS.out ((HK1.out.after hk2).alloc (HK1.out.after hk2).size _) (own_one n (HK1.out.after hk2).size) (hr2.alloc _)
    · have h9 : 48 ≤ c := by omega
      have z1 : ¬ ((c : Int) ≤ 57) := by omega
      have z2 : ((c : Int) == 45) = false := by simp; omega
      have z3 : decide ((c : Int) ≤ 57) = false := by simp; omega
      clear h4
      cases RW with
      | bad er p =>
        go_enter Tryz.func30, Tryz.ntmps30
        go_wp2_with (first
          | (go_at_call 31; refine HX.out.mono ?_; rintro e w1 ⟨rfl, hr1, hk1⟩; have HR1 := Lib.hid hr1; have HK1 := Lib.hid hk1; clear hr1 hk1)
          | (go_at_call 58; refine (HWO.out _ HR1.out HK1.out).mono ?_; rintro e w2 ⟨hk2, he⟩; unfold flt at he; subst he))
        exact ⟨rfl, VlE.bad HRS.out (HK1.out.after hk2)⟩
      | ok v k =>
        go_enter Tryz.func30, Tryz.ntmps30
        go_wp2_with (first
          | (go_at_call 31; refine HX.out.mono ?_; rintro e w1 ⟨rfl, hr1, hk1⟩; have HR1 := Lib.hid hr1; have HK1 := Lib.hid hk1; clear hr1 hk1)
          | (go_at_call 58; refine (HWO.out _ HR1.out HK1.out).mono ?_; rintro e w2 ⟨hk2, n, rfl, rfl, hr2⟩))
        go_ret
        exact VlE.ok HRS.out ((HK1.out.after hk2).alloc (HK1.out.after hk2).size _) (own_one n (HK1.out.after hk2).size) (hr2.alloc _)
end Go.Proofs.YtafbojiojeemoaaGreatDoor

/-
  What the reader's value is, whatever the depth.
-/
namespace Go.Proofs.YtafbojiojeemoaaGreatDoor
open Go.RowKit Np Rw Vp Up Qp Tp

set_option maxHeartbeats 1000000 in
theorem parts_deep (F : Value) (c rb : Nat) (s : ByteArray) (j : Nat) (w : World) (hr : Rd rb s j 128 w) :
    Calls Tryz.prog 90 #[.pointer (some ⟨rb, 0, none⟩), .int .u8 c, F] w fun e w' => e = flt 3 j ∧ w' = w := by
  have c1 := hr.c1
  have c2 := hr.c2
  clear hr
  go_enter Tryz.func90, Tryz.ntmps90
  go_wp2_with fail
  exact ⟨rfl, rfl, rfl⟩

set_option maxHeartbeats 1000000 in
theorem list_deep (rb : Nat) (s : ByteArray) (j : Nat) (w : World) (hr : Rd rb s j 128 w) :
    Calls Tryz.prog 54 #[.pointer (some ⟨rb, 0, none⟩)] w (VlE rb s 128 w (.bad 3 j)) := by
  have hmf : ∀ (fn : Fn) (first cap : Array Value) (w : World), (Instr.makeFunc fn first cap).run Tryz.prog w = .ok (.func fn first cap) w := fun _ _ _ _ => rfl
  have HR := Lib.hid hr
  clear hr
  go_enter Tryz.func54, Tryz.ntmps54
  go_wp2_with fail
  refine (parts_deep _ 93 rb s j _ ((HR.out.alloc _).alloc _)).mono ?_
  rintro e w' ⟨he, rfl⟩
  unfold flt at he
  subst he
  go_wp2_with fail
  exact ⟨rfl, VlE.bad rfl (((Kb.refl _ _ _).alloc (Nat.le_refl _) _).alloc (by simp) _)⟩

set_option maxHeartbeats 1000000 in
theorem object_deep (rb : Nat) (s : ByteArray) (j : Nat) (w : World) (hr : Rd rb s j 128 w) :
    Calls Tryz.prog 55 #[.pointer (some ⟨rb, 0, none⟩)] w (VlE rb s 128 w (.bad 3 j)) := by
  have hmf : ∀ (fn : Fn) (first cap : Array Value) (w : World), (Instr.makeFunc fn first cap).run Tryz.prog w = .ok (.func fn first cap) w := fun _ _ _ _ => rfl
  have hmm := @run_makeMap Tryz.prog
  have HR := Lib.hid hr
  clear hr
  go_enter Tryz.func55, Tryz.ntmps55
  go_wp2_with fail
  refine (parts_deep _ 125 rb s j _ (((((HR.out.alloc _).alloc _).alloc _).alloc _).alloc _)).mono ?_
  rintro e w' ⟨he, rfl⟩
  unfold flt at he
  subst he
  go_wp2_with fail
  exact ⟨rfl, VlE.bad rfl ((((((Kb.refl _ _ w).alloc (Nat.le_refl _) _).alloc (by simp) _).alloc (by simp; omega) _).alloc (by simp; omega) _).alloc (by simp; omega) _)⟩

theorem value_any (rb : Nat) (s : ByteArray) (hs : s.size ≤ 400000) : ∀ (n d i : Nat) (w : World), n + d = 128 → Rd rb s i d w → i ≤ s.size →
    (∀ w', Kb w.heap.size rb w w' → Er w') → (∀ w', Kb w.heap.size rb w w' → Tabs w') → (∀ w', Kb w.heap.size rb w w' → Wds w') →
    Calls Tryz.prog 30 #[.pointer (some ⟨rb, 0, none⟩)] w (VlE rb s d w (vlR s.data.toList n i))
  | 0, d, i, w, hd, hr, hi, hE, _, hW => by
    obtain rfl : d = 128 := by omega
    rw [vlR_zero]
    exact value_of _ _ rb s i 128 w hr hi hs hE hW (fun W _ h _ => list_deep rb s _ W h) (fun W _ h _ => object_deep rb s _ W h)
  | n + 1, d, i, w, hd, hr, hi, hE, hT, hW => by
    rw [vlR_succ]
    refine value_of _ _ rb s i d w hr hi hs hE hW (fun W hb h hk => ?_) (fun W hb h hk => ?_)
    · exact rdList_any (vlR s.data.toList n) rb s _ d W h (by omega) (bt_lt (by omega)) hs (vlR_goes _ n)
        (fun i' W' h1 h2 h3 => value_any rb s hs n (d + 1) i' W' (by omega) h2 h1 (fun w' h => hE w' ((hk.after h3).after h)) (fun w' h => hT w' ((hk.after h3).after h)) (fun w' h => hW w' ((hk.after h3).after h)))
    · exact rdObject_any (vlR s.data.toList n) rb s _ d W h (by omega) (bt_lt (by omega)) hs (vlR_goes _ n)
        (fun w' h => hE w' (hk.after h)) (fun w' h => hT w' (hk.after h))
        (fun i' W' h1 h2 h3 => value_any rb s hs n (d + 1) i' W' (by omega) h2 h1 (fun w' h => hE w' ((hk.after h3).after h)) (fun w' h => hT w' ((hk.after h3).after h)) (fun w' h => hW w' ((hk.after h3).after h)))
end Go.Proofs.YtafbojiojeemoaaGreatDoor

/-
  What text.Parse answers.
-/
namespace Go.Proofs.YtafbojiojeemoaaGreatDoor
open Go.RowKit Np Rw Vp Up Qp Tp

/-- How Parse ends. -/
def PrE (w : World) (S : List UInt8) (e : Ending) (w' : World) : Prop :=
  ∃ V, e = .returned (.tuple #[V, .int .i64 (prsR S).2.1, .int .i64 (prsR S).2.2]) ∧ OwnN w.heap.size w' V (prsR S).1 ∧ Below w.heap.size w w'
theorem prs_bad {S : List UInt8} {e : Int} {p : Nat} (h : vlR S 128 0 = .bad e p) : prsR S = ([], p, e) := by unfold prsR; rw [h]
theorem prs_more {S : List UInt8} {v : List Nd} {k : Nat} (h : vlR S 128 0 = .ok v k) (hk : sk S k < S.length) : prsR S = ([], sk S k, 1) := by
  unfold prsR; rw [h]; show (if sk S k < S.length then _ else _) = _; rw [if_pos hk]
theorem prs_ok {S : List UInt8} {v : List Nd} {k : Nat} (h : vlR S 128 0 = .ok v k) (hk : ¬ sk S k < S.length) : prsR S = (v, 0, 0) := by
  unfold prsR; rw [h]; show (if sk S k < S.length then _ else _) = _; rw [if_neg hk]
theorem PrE.mk {w w' : World} {S : List UInt8} {v : List Nd} {p : Nat} {e : Int} {V : Value} (h : prsR S = (v, p, e)) (h1 : OwnN w.heap.size w' V v) (h2 : Below w.heap.size w w') : PrE w S (.returned (.tuple #[V, .int .i64 p, .int .i64 e])) w' := by
  unfold PrE; rw [h]; exact ⟨V, rfl, h1, h2⟩

/-- The blocks that Parse lays. -/
structure Pz (n : Nat) (s : ByteArray) (i : Nat) (w : World) (v : Value) (W : World) : Prop where
  rd : Rd (n + 3) s i 0 W
  x0 : Box n 24 v W
  x1 : Box (n + 1) 3 (.int .i64 0) W
  x2 : Box (n + 2) 25 (.int .i64 0) W
  bl : Below n w W
theorem pz_start {n : Nat} {s : ByteArray} {w : World} (hn : w.heap.size = n) : Pz n s 0 w (.slice none 0 0) ((((w.alloc (.cells #[.slice none 0 0] 24)).alloc (.cells #[.int .i64 0] 3)).alloc (.cells #[.int .i64 0] 25)).alloc (.cells #[.string s, .int .i64 0, .int .i64 0] 55)) := by
  subst hn
  have b0 : Box w.heap.size 24 (.slice none 0 0) ((((w.alloc (.cells #[.slice none 0 0] 24)).alloc (.cells #[.int .i64 0] 3)).alloc (.cells #[.int .i64 0] 25)).alloc (.cells #[.string s, .int .i64 0, .int .i64 0] 55)) := (((Box.new w _ _).alloc _).alloc _).alloc _
  have bb : Below w.heap.size w ((((w.alloc (.cells #[.slice none 0 0] 24)).alloc (.cells #[.int .i64 0] 3)).alloc (.cells #[.int .i64 0] 25)).alloc (.cells #[.string s, .int .i64 0, .int .i64 0] 55)) := ((((Below.refl _ w).alloc (Nat.le_refl _) _).alloc (by simp) _).alloc (by simp; omega) _).alloc (by simp; omega) _
  have e1 : (w.alloc (.cells #[.slice none 0 0] 24)).heap.size = w.heap.size + 1 := by simp
  generalize hw1 : w.alloc (.cells #[.slice none 0 0] 24) = w1 at *
  have b1 : Box (w.heap.size + 1) 3 (.int .i64 0) (((w1.alloc (.cells #[.int .i64 0] 3)).alloc (.cells #[.int .i64 0] 25)).alloc (.cells #[.string s, .int .i64 0, .int .i64 0] 55)) := by rw [← e1]; exact ((Box.new w1 _ _).alloc _).alloc _
  have e2 : (w1.alloc (.cells #[.int .i64 0] 3)).heap.size = w.heap.size + 2 := by simp [e1]
  generalize hw2 : w1.alloc (.cells #[.int .i64 0] 3) = w2 at *
  have b2 : Box (w.heap.size + 2) 25 (.int .i64 0) ((w2.alloc (.cells #[.int .i64 0] 25)).alloc (.cells #[.string s, .int .i64 0, .int .i64 0] 55)) := by rw [← e2]; exact (Box.new w2 _ _).alloc _
  have e3 : (w2.alloc (.cells #[.int .i64 0] 25)).heap.size = w.heap.size + 3 := by simp [e2]
  generalize hw3 : w2.alloc (.cells #[.int .i64 0] 25) = w3 at *
  have b3 : Rd (w.heap.size + 3) s 0 0 (w3.alloc (.cells #[.string s, .int .i64 0, .int .i64 0] 55)) := by rw [← e3]; exact heap_alloc_new w3 _
  exact ⟨b3, b0, b1, b2, bb⟩
section
variable {n i k : Nat} {s : ByteArray} {w : World} {v : Value} {W W' : World}
theorem Pz.kb (h : Pz n s i w v W) (hr : Rd (n + 3) s k 0 W') (hk : Kb W.heap.size (n + 3) W W') : Pz n s k w v W' :=
  ⟨hr, h.x0.kb h.rd hk, h.x1.kb h.rd hk, h.x2.kb h.rd hk, h.bl.trans (hk.below (by have := h.x0.lt; omega) (by omega))⟩
theorem Pz.boxes (h : Pz n s i w v W) (hk : Kb W.heap.size (n + 3) W W') : Box n 24 v W' ∧ Box (n + 1) 3 (.int .i64 0) W' ∧ Box (n + 2) 25 (.int .i64 0) W' ∧ Below n w W' :=
  ⟨h.x0.kb h.rd hk, h.x1.kb h.rd hk, h.x2.kb h.rd hk, h.bl.trans (hk.below (by have := h.x0.lt; omega) (by omega))⟩
theorem Pz.set (h : Pz n s i w v W) (u : Value) : Pz n s i w u (W.setCell ⟨n, 0, none⟩ u) :=
  ⟨h.rd.other (by show n ≠ n + 3; omega) _, h.x0.set u, h.x1.other (by show n ≠ n + 1; omega) _, h.x2.other (by show n ≠ n + 2; omega) _, h.bl.setCell (Nat.le_refl _) _⟩
end
theorem caught {n : Nat} {w W W' : World} (hb : Below n w W) (hs : W.heap.size ≤ W'.heap.size) (h1 : W'.os = W.os) (h2 : W'.tape = W.tape) (h3 : W'.output = W.output) (hk : ∀ k, k < W.heap.size → ¬ k = n → ¬ k = n + 1 → ¬ k = n + 2 → W'.heap[k]? = W.heap[k]?) (hn : n ≤ W.heap.size) : Below n w W' :=
  ⟨h1.trans hb.os, h2.trans hb.tape, h3.trans hb.output, Nat.le_trans hb.size hs, fun k hk' => (hk k (by omega) (by omega) (by omega) (by omega)).trans (hb.block k hk')⟩

set_option maxRecDepth 100000 in
set_option maxHeartbeats 4000000 in
theorem parse_any (s : ByteArray) (w : World) (hs : s.size ≤ 400000) (hE : Er w) (hT : Tabs w) (hW : Wds w) :
    Calls Tryz.prog 9 #[.string s] w (PrE w s.data.toList) := by
  have hmf : ∀ (fn : Fn) (first cap : Array Value) (w : World), (Instr.makeFunc fn first cap).run Tryz.prog w = .ok (.func fn first cap) w := fun _ _ _ _ => rfl
  have HV : Hid (∀ (rb : Nat) (W : World), Rd rb s 0 0 W → w.heap.size ≤ rb → Below w.heap.size w W → Calls Tryz.prog 30 #[.pointer (some ⟨rb, 0, none⟩)] W (VlE rb s 0 W (vlR s.data.toList 128 0))) := Lib.hid (fun rb W h1 h2 h3 =>
    value_any rb s hs 128 0 0 W rfl h1 (Nat.zero_le _) (fun w' h => hE.below (h3.trans (h.below h3.size h2))) (fun w' h => hT.below (h3.trans (h.below h3.size h2))) (fun w' h => hW.below (h3.trans (h.below h3.size h2))))
  have HX : Hid (∀ (rb k : Nat) (W : World), Rd rb s k 0 W → k ≤ s.size → Calls Tryz.prog 31 #[.pointer (some ⟨rb, 0, none⟩)] W fun e w' => e = .returned (.int .u8 (bt s.data.toList (sk s.data.toList k))) ∧ Rd rb s (sk s.data.toList k) 0 w' ∧ Kb W.heap.size rb W w') := Lib.hid (fun rb k W h hk => next_any rb s k 0 W h hk hs)
  clear hE hT hW
  cases hv : vlR s.data.toList 128 0 with
  | bad er p =>
    have HP := Lib.hid (prs_bad hv)
    rw [hv] at HV
    clear hv
    go_enter_defers Tryz.func9, Tryz.ntmps9
    go_wp2_with fail
    have hz : Pz w.heap.size s 0 w (.slice none 0 0) ((((w.alloc (.cells #[.slice none 0 0] 24)).alloc (.cells #[.int .i64 0] 3)).alloc (.cells #[.int .i64 0] 25)).alloc (.cells #[.string s, .int .i64 0, .int .i64 0] 55)) := pz_start rfl
    refine (HV.out (w.heap.size + 3) _ hz.rd (by omega) hz.bl).mono ?_
    rintro e w2 ⟨hk2, he⟩
    unfold flt at he
    subst he
    obtain ⟨y0, y1, y2, yb⟩ := hz.boxes hk2
    refine leaves_cons (f := 29) (args := #[.pointer (some ⟨w.heap.size, 0, none⟩), .pointer (some ⟨w.heap.size + 1, 0, none⟩), .pointer (some ⟨w.heap.size + 2, 0, none⟩)]) (by simp) (by simp [go_sem]) ?_
    refine (catch_fault w.heap.size (w.heap.size + 1) (w.heap.size + 2) er p _ _ _ [] w2 (by omega) (by omega) (by omega) y0 y1 y2).mono ?_
    rintro e u' w3 ⟨rfl, rfl, g0, g1, g2, hsz, g3, g4, g5, g6⟩
    have d0 := cell_of_one g0
    have d1 := cell_of_one g1
    have d2 := cell_of_one g2
    have hB := Lib.hid (caught yb hsz g3 g4 g5 g6 (by have := y0.lt; omega))
    simp [Leaves, settle, results, Tryz.results9, go_sem, d0, d1, d2]
    exact PrE.mk HP.out (Own.nil _) hB.out
  | ok v k =>
    have hks : k ≤ s.size := (vlR_goes s.data.toList 128 0 v k hv).2.1
    have HXK := Lib.hid (fun rb W h => HX.out rb k W h hks)
    clear HX
    have hsk : sk s.data.toList k ≤ s.size := sk_le (S := s.data.toList) hks
    by_cases hlt : sk s.data.toList k < s.size
    · have HP := Lib.hid (prs_more hv hlt)
      rw [hv] at HV
      clear hv hks
      generalize bt s.data.toList (sk s.data.toList k) = cT at *
      generalize sk s.data.toList k = T at *
      go_enter_defers Tryz.func9, Tryz.ntmps9
      go_wp2_with fail
      have hz : Pz w.heap.size s 0 w (.slice none 0 0) ((((w.alloc (.cells #[.slice none 0 0] 24)).alloc (.cells #[.int .i64 0] 3)).alloc (.cells #[.int .i64 0] 25)).alloc (.cells #[.string s, .int .i64 0, .int .i64 0] 55)) := pz_start rfl
      refine (HV.out (w.heap.size + 3) _ hz.rd (by omega) hz.bl).mono ?_
      rintro e w2 ⟨hk2, V, rfl, hV, hr2⟩
      obtain ⟨A, m, c, rfl⟩ : ∃ (A : Option Addr) (m c : Nat), V = .slice A m c := by obtain ⟨A, c, h, -⟩ := hV.form; exact ⟨A, _, c, h⟩
      have hz2 := hz.kb hr2 hk2
      have l0 := hz2.x0.c
      have l1 := hz2.x0.f
      have HZ3 := Lib.hid (hz2.set (.slice A m c))
      have HV3 : Hid (OwnN w.heap.size (w2.setCell ⟨w.heap.size, 0, none⟩ (.slice A m c)) (.slice A m c) v) := Lib.hid ((hV.mono hz.bl.size).box hz2.x0 (by decide) _)
      clear hz hk2 hV hr2 hz2
      go_wp2_with (go_at_call 31; refine (HXK.out _ _ HZ3.out.rd).mono ?_; rintro e w4 ⟨rfl, hr4, hk4⟩; have hz4 := HZ3.out.kb hr4 hk4; have m1 := hr4.c1; have m2 := hz4.x0.c; have m3 := hz4.x0.f; have m4 := hz4.x1.c; have m5 := hz4.x1.f; have m6 := hz4.x2.c; have m7 := hz4.x2.f; have HZ4 := Lib.hid hz4; have HV4 := Lib.hid (HV3.out.kb (by decide) HZ3.out.rd hk4); clear hz4 hr4 hk4)
      refine leaves_cons (f := 29) (args := #[.pointer (some ⟨w.heap.size, 0, none⟩), .pointer (some ⟨w.heap.size + 1, 0, none⟩), .pointer (some ⟨w.heap.size + 2, 0, none⟩)]) (by simp) (by simp [go_sem]) ?_
      refine (catch_fault w.heap.size (w.heap.size + 1) (w.heap.size + 2) 1 T _ _ _ [] w4 (by omega) (by omega) (by omega) HZ4.out.x0 HZ4.out.x1 HZ4.out.x2).mono ?_
      rintro e u' w3 ⟨rfl, rfl, g0, g1, g2, hsz, g3, g4, g5, g6⟩
      have d0 := cell_of_one g0
      have d1 := cell_of_one g1
      have d2 := cell_of_one g2
      have hB := Lib.hid (caught HZ4.out.bl hsz g3 g4 g5 g6 (by have := HZ4.out.x0.lt; omega))
      simp [Leaves, settle, results, Tryz.results9, go_sem, d0, d1, d2]
      exact PrE.mk HP.out (Own.nil _) hB.out
    · have HP := Lib.hid (prs_ok hv hlt)
      rw [hv] at HV
      clear hv hks
      generalize bt s.data.toList (sk s.data.toList k) = cT at *
      generalize sk s.data.toList k = T at *
      go_enter_defers Tryz.func9, Tryz.ntmps9
      go_wp2_with fail
      have hz : Pz w.heap.size s 0 w (.slice none 0 0) ((((w.alloc (.cells #[.slice none 0 0] 24)).alloc (.cells #[.int .i64 0] 3)).alloc (.cells #[.int .i64 0] 25)).alloc (.cells #[.string s, .int .i64 0, .int .i64 0] 55)) := pz_start rfl
      refine (HV.out (w.heap.size + 3) _ hz.rd (by omega) hz.bl).mono ?_
      rintro e w2 ⟨hk2, V, rfl, hV, hr2⟩
      obtain ⟨A, m, c, rfl⟩ : ∃ (A : Option Addr) (m c : Nat), V = .slice A m c := by obtain ⟨A, c, h, -⟩ := hV.form; exact ⟨A, _, c, h⟩
      have hz2 := hz.kb hr2 hk2
      have l0 := hz2.x0.c
      have l1 := hz2.x0.f
      have HZ3 := Lib.hid (hz2.set (.slice A m c))
      have HV3 : Hid (OwnN w.heap.size (w2.setCell ⟨w.heap.size, 0, none⟩ (.slice A m c)) (.slice A m c) v) := Lib.hid ((hV.mono hz.bl.size).box hz2.x0 (by decide) _)
      clear hz hk2 hV hr2 hz2
      go_wp2_with (go_at_call 31; refine (HXK.out _ _ HZ3.out.rd).mono ?_; rintro e w4 ⟨rfl, hr4, hk4⟩; have hz4 := HZ3.out.kb hr4 hk4; have m1 := hr4.c1; have m2 := hz4.x0.c; have m3 := hz4.x0.f; have m4 := hz4.x1.c; have m5 := hz4.x1.f; have m6 := hz4.x2.c; have m7 := hz4.x2.f; have HZ4 := Lib.hid hz4; have HV4 := Lib.hid (HV3.out.kb (by decide) HZ3.out.rd hk4); clear hz4 hr4 hk4)
      have r0 := (HZ4.out.x0.set (.slice A m c))
      have r1 := HZ4.out.x1.other (p := ⟨w.heap.size, 0, none⟩) (by show w.heap.size ≠ w.heap.size + 1; omega) (.slice A m c)
      have r2 := HZ4.out.x2.other (p := ⟨w.heap.size, 0, none⟩) (by show w.heap.size ≠ w.heap.size + 2; omega) (.slice A m c)
      have hv1 := HV4.out.box HZ4.out.x0 (by decide) (.slice A m c)
      have s0 := r0.other (p := ⟨w.heap.size + 1, 0, none⟩) (by show w.heap.size + 1 ≠ w.heap.size; omega) (.int .i64 0)
      have s1 := r1.set (.int .i64 0)
      have s2 := r2.other (p := ⟨w.heap.size + 1, 0, none⟩) (by show w.heap.size + 1 ≠ w.heap.size + 2; omega) (.int .i64 0)
      have hv2 := hv1.box r1 (by decide) (.int .i64 0)
      have t0 := s0.other (p := ⟨w.heap.size + 2, 0, none⟩) (by show w.heap.size + 2 ≠ w.heap.size; omega) (.int .i64 0)
      have t1 := s1.other (p := ⟨w.heap.size + 2, 0, none⟩) (by show w.heap.size + 2 ≠ w.heap.size + 1; omega) (.int .i64 0)
      have t2 := s2.set (.int .i64 0)
      have hv3 := Lib.hid (hv2.box s2 (by decide) (.int .i64 0))
      have hB := Lib.hid (((HZ4.out.bl.setCell (p := ⟨w.heap.size, 0, none⟩) (Nat.le_refl _) (.slice A m c)).setCell (p := ⟨w.heap.size + 1, 0, none⟩) (by show w.heap.size ≤ w.heap.size + 1; omega) (.int .i64 0)).setCell (p := ⟨w.heap.size + 2, 0, none⟩) (by show w.heap.size ≤ w.heap.size + 2; omega) (.int .i64 0))
      have d0 := t0.c
      have d1 := t1.c
      have d2 := t2.c
      clear r0 r1 r2 s0 s1 s2 t0 t1 t2 hv1 hv2
      refine leaves_cons (f := 29) (args := #[.pointer (some ⟨w.heap.size, 0, none⟩), .pointer (some ⟨w.heap.size + 1, 0, none⟩), .pointer (some ⟨w.heap.size + 2, 0, none⟩)]) (by simp) (by simp [go_sem]) ?_
      refine (catch_idle w.heap.size (w.heap.size + 1) (w.heap.size + 2) _).mono ?_
      rintro e u' w3 ⟨rfl, rfl, rfl⟩
      simp [Leaves, settle, results, Tryz.results9, go_sem, d0, d1, d2]
      exact PrE.mk HP.out hv3.out hB.out
end Go.Proofs.YtafbojiojeemoaaGreatDoor
