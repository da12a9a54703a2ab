/-
  What the document's own answers are: rising, Right.
-/
import Derived.Test.YtbhgmfddjnkglaaGreatDoorRefW4
import Derived.Sort.Walk0
namespace Go.Proofs.YtbhgmfddjnkglaaGreatDoor
open Go.RowKit Np Rw Vp

/-- Texts that memory can hold. -/
def Short (l : List Nd) : Prop := ∀ n ∈ l, n.name.length ≤ maxLen ∧ n.s.length ≤ maxLen

theorem rising_bad {kind : Int} {t : Tr Nd} {ts : List (Tr Nd)} (h : nameOk kind t = false) : rising kind (t :: ts) = false := by
  cases ts <;> simp [rising, h]
theorem rising_six {t u : Tr Nd} {ts : List (Tr Nd)} (h : nameOk 6 t = true) : rising 6 (t :: u :: ts) = (decide (t.nd.name < u.nd.name) && rising 6 (u :: ts)) := by simp [rising, h]
theorem rising_not {kind : Int} {t : Tr Nd} {ts : List (Tr Nd)} (hk : kind ≠ 6) (h : nameOk kind t = true) : rising kind (t :: ts) = rising kind ts := by
  cases ts <;> simp [rising, h, hk]
theorem rising_one {kind : Int} {t : Tr Nd} (h : nameOk kind t = true) : rising kind [t] = true := by simp [rising, h]
theorem nameOk_arr {t : Tr Nd} (h : t.nd.name ≠ []) : nameOk 5 t = false := by simp [nameOk, h]
theorem nameOk_arr' {t : Tr Nd} (h : t.nd.name = []) : nameOk 5 t = true := by simp [nameOk, h]; rfl
theorem nameOk_vld {kind : Int} {t : Tr Nd} (h : vld t.nd.name = false) : nameOk kind t = false := by simp [nameOk]; intro _; exact h
theorem nameOk_not {kind : Int} {t : Tr Nd} (hk : kind ≠ 5) : nameOk kind t = vld t.nd.name := by simp [nameOk, hk]

/-- Where the parts of a node stand. -/
theorem part_at {l r : List Nd} {at_ : Nat} {s : Tr Nd} {pre post : List (Tr Nd)} (h : l.drop at_ = flat s ++ r) (hk : s.ks = pre ++ post) : l.drop (at_ + 1 + (flats pre).length) = flats post ++ r := by
  rw [Nat.add_assoc, Nat.add_comm 1, ← List.drop_drop] 
  rw [h, flat_eq, hk, flats_append, List.cons_append, List.drop_succ_cons, List.append_assoc, List.drop_left]
theorem head_at {l r : List Nd} {k : Nat} {t : Tr Nd} (h : l.drop k = flat t ++ r) : l[k]? = some t.nd := by
  have : (l.drop k)[0]? = some t.nd := by rw [h, flat_eq]; rfl
  rwa [List.getElem?_drop, Nat.add_zero] at this
theorem part_lt {l r : List Nd} {k : Nat} {t : Tr Nd} (h : l.drop k = flat t ++ r) : k + (flat t).length ≤ l.length := by
  have := congrArg List.length h
  have := flat_pos t
  simp at *; omega
theorem nxt_at {l r : List Nd} {k : Nat} {t : Tr Nd} (h : l.drop k = flat t ++ r) (ho : okT many t) : nxtL l.length (l.drop k) 1 k = (k + (flat t).length : Nat) := by
  have hl := part_lt h
  rw [h, show (1 : Nat) = 0 + 1 from rfl, nxt_flat t _ r 0 k ho (by omega), nxtL_zero]

set_option maxHeartbeats 4000000 in
theorem refRising_any (v : Value) (l : List Nd) (at_ : Nat) (s : Tr Nd) (r : List Nd) (w : World) (hv : Nds w v l) (hl : l.length ≤ 65536) (hsh : Short l) (hs : l.drop at_ = flat s ++ r) (ho : okT many s) :
    Calls Tryz.prog 57 #[v, .int .i64 at_] w fun e w' => e = .returned (.bool (rising s.nd.kind s.ks)) ∧ ∃ n, w' = w.drewN n := by
  generalize hans : rising s.nd.kind s.ks = ans
  have HANS := Lib.hid hans; clear hans
  have hat := part_lt hs
  have hfp := flat_pos s
  have hvH := Lib.hid hv
  obtain ⟨g, o, c, rfl, hc, hcm, hg, hx⟩ := hv.opened (by omega)
  have HX := Lib.hid hx; clear hx
  have HS := Lib.hid hs; clear hs
  have HSH := Lib.hid hsh; clear hsh
  obtain ⟨a0, a1, -, -, -, -⟩ := (HX.out at_ _ (head_at HS.out)).nd
  have hmany : s.nd.many = s.ks.length := (okT_eq.1 ho).1
  rw [hmany] at a1
  have HKS : Hid (okTs many s.ks) := Lib.hid (okT_eq.1 ho).2
  clear hmany ho
  have hkl : s.ks.length ≤ 65536 := by
    have h1 := flats_len s.ks
    have h2 : (flat s).length = 1 + (flats s.ks).length := by rw [flat_eq]; simp; omega
    omega
  generalize s.nd.kind = kd at HANS a0
  generalize hn : l.length = n at *
  have HN := Lib.hid hn; clear hn
  go_enter Tryz.func57, Tryz.ntmps57
  go_wp2
  go_loopw [5, 6] (fun i k wr => ∃ pre post : List (Tr Nd), s.ks = pre ++ post ∧ i = .int .i64 (at_ + 1 + (flats pre).length : Nat) ∧ k = .int .i64 pre.length ∧ (∃ m, wr = w.drewN m) ∧ rising kd post = ans) (fun _ k _ => s.ks.length - (intOf k).toNat)
  case atStart => exact ⟨[], s.ks, rfl, by simp, rfl, ⟨0, rfl⟩, HANS.out⟩
  case round =>
    obtain ⟨pre, post, hpp, rfl, rfl, hq, hrs⟩ := hrel
    have HQ := Lib.hid hq
    have HR := Lib.hid hrs
    have HP := Lib.hid hpp
    have HPA := Lib.hid (part_at HS.out HP.out)
    have hlen : pre.length + post.length = s.ks.length := by rw [hpp]; simp
    clear hq hrs hpp
    have a0 := cell_quiet a0 HQ.out
    have a1 := cell_quiet a1 HQ.out
    generalize hi : at_ + 1 + (flats pre).length = i at *
    have HI := Lib.hid hi; clear hi
    cases post with
    | nil =>
      have HE : Hid (ans = true) := Lib.hid HR.out.symm
      simp only [List.length_nil, Nat.add_zero] at hlen
      go_wp2
      go_ret
      exact ⟨ret_bool HE.out.symm, HQ.out⟩
    | cons t rest =>
      have hti : l.drop i = flat t ++ (flats rest ++ r) := by have := HPA.out; rwa [flats_cons, List.append_assoc] at this
      have hokt : okT many t := by have := HKS.out; rw [HP.out, okTs_append, okTs_cons] at this; exact this.2.1
      have hlt := part_lt hti
      have htp := flat_pos t
      rw [HN.out] at hlt
      obtain ⟨-, -, b2, -, -, -⟩ := (HX.out i _ (head_at hti)).nd.quiet HQ.out
      have HNX : Hid (nxtL l.length (l.drop i) 1 i = (i + (flat t).length : Nat)) := Lib.hid (nxt_at hti hokt)
      have HNI : Hid (at_ + 1 + (flats (pre ++ [t])).length = i + (flat t).length) := Lib.hid (by rw [flats_append, flats_cons, flats_nil, List.append_nil, List.length_append, ← HI.out]; omega)
      have HSN : Hid ((ByteArray.mk t.nd.name.toArray).size ≤ maxLen) := Lib.hid (HSH.out _ (List.mem_of_getElem? (head_at hti))).1
      have HVR : Hid (Nds wr (.slice (some ⟨g, o, none⟩) n c) l) := Lib.hid (hvH.out.quiet HQ.out)
      have HTI := Lib.hid hti
      have hnm : ∃ nm, t.nd.name = nm := ⟨_, rfl⟩
      obtain ⟨nm, hnm⟩ := hnm
      rw [hnm] at b2 HSN
      have HNM := Lib.hid hnm
      clear hnm hti hokt HPA HI
      simp only [List.length_cons] at hlen
      by_cases h5 : kd = 5
      · by_cases hne : nm = []
        · have HV : Hid (vld nm = true) := Lib.hid (by rw [hne]; rfl)
          have HC : Hid (rising kd rest = ans) := Lib.hid (by rw [← HR.out, rising_not (by omega) (by rw [h5]; exact nameOk_arr' (HNM.out.trans hne))])
          subst h5 hne
          have e6 : ((5 : Int) == 6) = false := by decide
          go_wp2_with (first | (go_at_call 71; refine (refUtf_any _ _ HSN.out).mono ?_; rintro e w' ⟨rfl, rfl⟩; rw [show Lib.validD (ByteArray.mk #[]).data.toList = true from rfl]) | (go_at_call 55; refine (refNext_any _ l i _ HVR.out (by rw [HN.out]; exact hl) (by rw [HN.out]; omega)).mono ?_; rintro e w' ⟨rfl, rfl⟩; rw [HNX.out]))
          go_quiet (fail)
          go_wp2
          go_roundw
          case rel => exact ⟨pre ++ [t], rest, by rw [HP.out]; simp, by rw [HNI.out, Int.natCast_add], by simp, quiet_more HQ.out _, HC.out⟩
          case measure => simp [intOf]; omega
        · have HC : Hid (ans = false) := Lib.hid (by rw [← HR.out, h5]; exact rising_bad (nameOk_arr (by rw [HNM.out]; exact hne)))
          have hne1 : nm.isEmpty = false := by cases nm <;> simp_all
          have hne2 : (!nm.isEmpty) = true := by simp [hne1]
          subst h5
          clear HNX HVR
          go_wp2_with fail
          go_ret
          exact ⟨ret_bool HC.out.symm, HQ.out⟩
      · have e5 : (kd == 5) = false := by simp [h5]
        cases hvl : vld nm
        · have HV := Lib.hid hvl
          have HC : Hid (ans = false) := Lib.hid (by rw [← HR.out]; exact rising_bad (nameOk_vld (by rw [HNM.out]; exact hvl)))
          clear hvl
          go_wp2_with (first | (go_at_call 71; refine (refUtf_any _ _ HSN.out).mono ?_; rintro e w' ⟨rfl, rfl⟩; rw [show Lib.validD (ByteArray.mk nm.toArray).data.toList = false from HV.out]) | (go_at_call 55; refine (refNext_any _ l i _ HVR.out (by rw [HN.out]; exact hl) (by rw [HN.out]; omega)).mono ?_; rintro e w' ⟨rfl, rfl⟩; rw [HNX.out]))
          go_ret
          exact ⟨ret_bool HC.out.symm, HQ.out⟩
        · have HV := Lib.hid hvl
          have HO : Hid (nameOk kd t = true) := Lib.hid (by rw [nameOk_not h5, HNM.out]; exact hvl)
          clear hvl
          by_cases h6 : kd = 6
          · subst h6
            cases rest with
            | nil =>
              have HC : Hid (rising 6 [] = ans) := Lib.hid (by rw [← HR.out, rising_one HO.out]; rfl)
              simp only [List.length_nil] at hlen
              have hg1 : decide ((pre.length : Int) + 1 < s.ks.length) = false := by simp; omega
              have hg2 : decide (pre.length + 1 < s.ks.length) = false := by simp; omega
              go_wp2_with (first | (go_at_call 71; refine (refUtf_any _ _ HSN.out).mono ?_; rintro e w' ⟨rfl, rfl⟩; rw [show Lib.validD (ByteArray.mk nm.toArray).data.toList = true from HV.out]) | (go_at_call 55; refine (refNext_any _ l i _ HVR.out (by rw [HN.out]; exact hl) (by rw [HN.out]; omega)).mono ?_; rintro e w' ⟨rfl, rfl⟩; rw [HNX.out]))
              go_quiet (fail)
              go_wp2
              go_roundw
              case rel => exact ⟨pre ++ [t], [], by rw [HP.out]; simp, by rw [HNI.out, Int.natCast_add], by simp, quiet_more HQ.out _, HC.out⟩
              case measure => simp [intOf]; omega
            | cons u rest =>
              have htu : l.drop (i + (flat t).length) = flat u ++ (flats rest ++ r) := by
                rw [← List.drop_drop, HTI.out, List.drop_left, flats_cons, List.append_assoc]
              have hlu := part_lt htu
              have hup := flat_pos u
              rw [HN.out] at hlu
              obtain ⟨-, -, c2, -, -, -⟩ := (HX.out _ _ (head_at htu)).nd.quiet HQ.out
              have HRS := Lib.hid (rising_six (u := u) (ts := rest) HO.out)
              have hum : ∃ um, u.nd.name = um := ⟨_, rfl⟩
              obtain ⟨um, hum⟩ := hum
              rw [hum] at c2
              have HUM := Lib.hid hum
              clear hum htu
              simp only [List.length_cons] at hlen
              have hg1 : decide ((pre.length : Int) + 1 < s.ks.length) = true := by simp; omega
              have hg2 : decide (pre.length + 1 < s.ks.length) = true := by simp; omega
              by_cases hlx : nm < um
              · have HC : Hid (rising 6 (u :: rest) = ans) := Lib.hid (by rw [← HR.out, HRS.out, HNM.out, HUM.out]; simp [hlx])
                have hbl : Op.bytesLess nm um = true := by rw [bytesLess_eq]; simp [hlx]
                clear hlx
                go_wp2_with (first | (go_at_call 71; refine (refUtf_any _ _ HSN.out).mono ?_; rintro e w' ⟨rfl, rfl⟩; rw [show Lib.validD (ByteArray.mk nm.toArray).data.toList = true from HV.out]) | (go_at_call 55; refine (refNext_any _ l i _ HVR.out (by rw [HN.out]; exact hl) (by rw [HN.out]; omega)).mono ?_; rintro e w' ⟨rfl, rfl⟩; rw [HNX.out]))
                go_quiet (fail)
                go_wp2
                go_roundw
                case rel => exact ⟨pre ++ [t], u :: rest, by rw [HP.out]; simp, by rw [HNI.out, Int.natCast_add], by simp, quiet_more HQ.out _, HC.out⟩
                case measure => simp [intOf]; omega
              · have HC : Hid (ans = false) := Lib.hid (by rw [← HR.out, HRS.out, HNM.out, HUM.out]; simp [hlx])
                have hbl : Op.bytesLess nm um = false := by rw [bytesLess_eq]; simp [hlx]
                clear hlx
                go_wp2_with (first | (go_at_call 71; refine (refUtf_any _ _ HSN.out).mono ?_; rintro e w' ⟨rfl, rfl⟩; rw [show Lib.validD (ByteArray.mk nm.toArray).data.toList = true from HV.out]) | (go_at_call 55; refine (refNext_any _ l i _ HVR.out (by rw [HN.out]; exact hl) (by rw [HN.out]; omega)).mono ?_; rintro e w' ⟨rfl, rfl⟩; rw [HNX.out]))
                go_quiet (fail)
                go_wp2
                go_ret
                exact ⟨ret_bool HC.out.symm, quiet_more HQ.out _⟩
          · have e6 : (kd == 6) = false := by simp [h6]
            have HC : Hid (rising kd rest = ans) := Lib.hid (by rw [← HR.out, rising_not h6 HO.out])
            go_wp2_with (first | (go_at_call 71; refine (refUtf_any _ _ HSN.out).mono ?_; rintro e w' ⟨rfl, rfl⟩; rw [show Lib.validD (ByteArray.mk nm.toArray).data.toList = true from HV.out]) | (go_at_call 55; refine (refNext_any _ l i _ HVR.out (by rw [HN.out]; exact hl) (by rw [HN.out]; omega)).mono ?_; rintro e w' ⟨rfl, rfl⟩; rw [HNX.out]))
            go_quiet (fail)
            go_wp2
            go_roundw
            case rel => exact ⟨pre ++ [t], rest, by rw [HP.out]; simp, by rw [HNI.out, Int.natCast_add], by simp, quiet_more HQ.out _, HC.out⟩
            case measure => simp [intOf]; omega
end Go.Proofs.YtbhgmfddjnkglaaGreatDoor
