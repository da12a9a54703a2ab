/-
  Joined: Pa2, Pa3.
-/
import Derived.Test.YtafbojiojeemoaaGreatDoorPathTextsJ2
import Derived.Test.YtafbojiojeemoaaGreatDoorPathTextsJ8
import Derived.Deep.RegionHeld3
import Derived.WalkMore
import Derived.Deep.LoopGhost

/-
  What path's place answers: where a path leads in a row.
-/
namespace Go.Proofs.YtafbojiojeemoaaGreatDoor
open Go.RowKit Np Rw Vp Pw

/-- What is left of the way: in the row there stands a value; the rest of the path leads on from it. -/
structure PlS (p : List St) (t : Tr Nd) (k a : Nat) : Prop where
  ex : ∃ u post, okT many u ∧ (flat t).drop a = flat u ++ post ∧ a + (flat u).length + post.length = (flat t).length ∧ errP p t = errP (p.drop k) u ∧ offP p t = a + offP (p.drop k) u
structure PlR (p : List St) (t : Tr Nd) (w : World) (n : Nat) (iv av : Value) (wr : World) : Prop where
  ex : ∃ k a : Nat, k ≤ n ∧ iv = .int .i64 k ∧ av = .int .i64 a ∧ Hid (PlS p t k a) ∧ Hid (Below w.heap.size w wr)
/-- Between two parts of a value. -/
structure KdS (t : Tr Nd) (s : St) (ks : List (Tr Nd)) (post : List Nd) (b j a : Nat) : Prop where
  dr : (flat t).drop a = flats (ks.drop j) ++ post
  at' : a = b + 1 + (flats (ks.take j)).length
  ln : a + (flats (ks.drop j)).length + post.length = (flat t).length
  sk : seekN s (names ks) 0 = seekN s (names (ks.drop j)) j
structure KdR (t : Tr Nd) (s : St) (ks : List (Tr Nd)) (post : List Nd) (b m : Nat) (w : World) (iv av : Value) (wr : World) : Prop where
  ex : ∃ j a : Nat, j ≤ m ∧ iv = .int .i64 j ∧ av = .int .i64 a ∧ Hid (KdS t s ks post b j a) ∧ Hid (Below w.heap.size w wr)
theorem alloc_at2 (w : World) (o : Obj) {n : Nat} (h : w.heap.size = n) : (w.alloc o).heap[n]? = some o := by subst h; exact Array.getElem?_push_size
/-- A step in a block. -/
def StAt (B : Nat) (s : St) (w : World) : Prop := w.heap[B]? = some (.cells #[.bool s.part, .string ⟨s.name.toArray⟩, .int .i64 s.n] 74 (0, 0))
theorem StAt.lt {B : Nat} {s : St} {w : World} (h : StAt B s w) : B < w.heap.size := (Array.getElem?_eq_some_iff.1 h).1
theorem StAt.sp {B : Nat} {s : St} {w : World} (h : StAt B s w) : Sp3 w B 0 s := ⟨by rw [Lib.cell_of_heap h]; rfl, by rw [Lib.cell_of_heap h]; rfl, by rw [Lib.cell_of_heap h]; rfl⟩
theorem StAt.below {B C : Nat} {s : St} {w w' : World} (h : StAt B s w) (hb : Below C w w') (hB : B < C) : StAt B s w' := (hb.block B hB).trans h

set_option maxRecDepth 100000 in
set_option maxHeartbeats 4000000 in
theorem place_any (pv v : Value) (p : List St) (t : Tr Nd) (w : World) (hp : Sps w pv p) (hv : Nds w v (flat t)) (ht : okT many t) (hl : (flat t).length ≤ 100000) (hpl : p.length ≤ 1000) :
    Calls Tryz.prog 77 #[pv, v] w fun e w' => e = .returned (.tuple #[.int .i64 (if errP p t = 0 then (offP p t : Int) else 0), .int .i64 (errP p t)]) ∧ Below w.heap.size w w' := by
  have HV := Lib.hid hv
  have HT := Lib.hid ht
  have HXP : Hid (∀ k s, p[k]? = some s → ∃ g o c, pv = .slice (some ⟨g, o, none⟩) p.length c ∧ g < w.heap.size ∧ Sp3 w g (o + k * 3) s) := Lib.hid fun k s hs => by
    obtain ⟨g, o, c, hv, -, -, hg, hx⟩ := hp.opened (by have := (List.getElem?_eq_some_iff.1 hs).1; omega)
    exact ⟨g, o, c, hv, hg, (hx k s hs).sp⟩
  have HS0 : Hid (PlS p t 0 0) := Lib.hid ⟨t, [], ht, by simp, by simp, by simp, by simp⟩
  obtain ⟨P, pc, rfl, -⟩ := hp
  obtain ⟨g, o, c, rfl, hc, hcm, hg, hx⟩ := hv.opened (flat_pos t)
  have HX := Lib.hid hx
  have HPL : Hid (∃ m, p.length = m) := Lib.hid ⟨_, rfl⟩
  clear hx hv ht
  unfold maxLen at hcm
  generalize hnn : (flat t).length = N at *
  have HN := Lib.hid hnn
  clear hnn
  generalize hpp : p.length = n at *
  have HP := Lib.hid hpp
  clear hpp
  generalize hRR : (if errP p t = 0 then (offP p t : Int) else 0) = R at *
  have HR := Lib.hid hRR
  clear hRR
  generalize hEE : errP p t = E at *
  have HE := Lib.hid hEE
  clear hEE
  go_enter Tryz.func77, Tryz.ntmps77
  go_wp2_with fail
  go_step3
  go_wp2_with fail
  go_step3
  go_wp2_with fail
  go_loopw [13, 6] (fun iv av wr => PlR p t w n iv av wr) (fun iv _ _ => n - (intOf iv).toNat)
  case atStart => exact ⟨0, 0, Nat.zero_le _, rfl, rfl, HS0, Lib.hid (Below.refl _ _)⟩
  case round =>
    obtain ⟨k, a, hk, rfl, rfl, HS, HB⟩ := hrel.ex
    by_cases hlt : k < n
    · have hkp : k < p.length := by rw [HP.out]; exact hlt
      obtain ⟨u, post, hu, hdr, hln, her, hof⟩ := HS.out.ex
      have hup := flat_pos u
      have hdp : p.drop k = p[k] :: p.drop (k + 1) := (List.getElem_cons_drop hkp).symm
      obtain ⟨gp, op, cp, e1, hgp, hs3⟩ := HXP.out k _ (List.getElem?_eq_getElem hkp)
      injection e1 with e1 e2 e3
      subst e1 e3
      rw [hdp] at her hof
      have hax : (flat t)[a]? = some u.nd := by
        have h1 : ((flat t).drop a)[0]? = some u.nd := by rw [hdr, flat_eq]; rfl
        rwa [List.getElem?_drop, Nat.add_zero] at h1
      have haN : a < N := by rw [HN.out] at hln; omega
      have HER := Lib.hid her
      have HOF := Lib.hid hof
      have HDR := Lib.hid hdr
      have HLN := Lib.hid hln
      have HU := Lib.hid hu
      have HAX := Lib.hid hax
      obtain ⟨z0, z1, z2⟩ := hs3
      have s0 := (HB.out.cell (p := ⟨gp, op + k * 3, none⟩) hgp).trans z0
      have s1 := (HB.out.cell (p := ⟨gp, op + k * 3 + 1, none⟩) hgp).trans z1
      have s2 := (HB.out.cell (p := ⟨gp, op + k * 3 + 2, none⟩) hgp).trans z2
      clear z0 z1 z2 hdp her hof hdr hln hu hax e2 hup
      generalize p[k] = s at *
      go_upto_region 5 with fail
      have hSt : StAt wr.heap.size s (wr.alloc (.cells #[.bool s.part, .string ⟨s.name.toArray⟩, .int .i64 s.n] 74)) := alloc_at2 _ _ rfl
      have hB1 : Below w.heap.size w (wr.alloc (.cells #[.bool s.part, .string ⟨s.name.toArray⟩, .int .i64 s.n] 74)) := HB.out.alloc HB.out.size _
      generalize wr.alloc (.cells #[.bool s.part, .string ⟨s.name.toArray⟩, .int .i64 s.n] 74) = W1 at hSt hB1 ⊢
      clear s0 s1 s2
      have HB1 := Lib.hid hB1
      have HST := Lib.hid hSt
      obtain ⟨t0, t1, t2⟩ := hSt.sp
      obtain ⟨x0, x1, x2, x3, x4, x5⟩ := (HX.out a u.nd HAX.out).nd
      have q0 := (hB1.cell (p := ⟨g, o + a * 6, none⟩) hg).trans x0
      have HKP : Hid (∀ W, Below W1.heap.size W1 W → W.cell? ⟨g, o + a * 6, none⟩ = some (.int .i64 u.nd.kind) ∧ W.cell? ⟨wr.heap.size, 0, none⟩ = some (.bool s.part) ∧ W.cell? ⟨wr.heap.size, 1, none⟩ = some (.string ⟨s.name.toArray⟩) ∧ W.cell? ⟨wr.heap.size, 2, none⟩ = some (.int .i64 s.n) ∧ Below W1.heap.size W1 W) := Lib.hid fun W hb => ⟨(hb.cell (p := ⟨g, o + a * 6, none⟩) (World.block_lt_of_cell? _ _ q0)).trans q0, (hb.cell (p := ⟨wr.heap.size, 0, none⟩) HST.out.lt).trans t0, (hb.cell (p := ⟨wr.heap.size, 1, none⟩) HST.out.lt).trans (by simpa using t1), (hb.cell (p := ⟨wr.heap.size, 2, none⟩) HST.out.lt).trans (by simpa using t2), hb⟩
      have HWD : Hid (Below W1.heap.size W1 W1.drew) := Lib.hid (Below.refl _ W1).drew
      have haN2 : (a : Int) < (N : Int) := by omega
      have haN3 : ((a : Int) == (N : Int)) = false := by simp; omega
      clear hSt hB1 x0 x1 x2 x3 x4 x5 t0 t1 t2 q0
      obtain ⟨q0, q1, q2, q3, -⟩ := HKP.out W1 (Below.refl _ _)
      go_cut [30] (fun s30 wx => s30 = .bool (!decide (u.nd.kind = stKind s)) ∧ Hid (Below W1.heap.size W1 wx))
      case first =>
        go_region_held3 (fun w' => w'.cell? ⟨g, o + a * 6, none⟩ = some (.int .i64 u.nd.kind) ∧ w'.cell? ⟨wr.heap.size, 0, none⟩ = some (.bool s.part) ∧ w'.cell? ⟨wr.heap.size, 1, none⟩ = some (.string ⟨s.name.toArray⟩) ∧ w'.cell? ⟨wr.heap.size, 2, none⟩ = some (.int .i64 s.n) ∧ Below W1.heap.size W1 w')
          (first | exact HKP.out _ HWD.out | exact HKP.out _ (HBW.out.trans (hb3.mono HBW.out.size)) | go_keep)
          ((go_at_call 111; have HBW : Hid (Below W1.heap.size W1 _) := Lib.hid (by assumption); refine (holder_any s _).mono ?_; rintro e w3 ⟨rfl, hb3⟩))
        all_goals go_wp2_with fail
        all_goals go_meet
        all_goals exact ⟨congrArg Value.bool (by rw [bne, Bool.eq_iff_iff]; simp), Lib.hid (HBW.out.trans (hb3.mono HBW.out.size))⟩
      case rest =>
        obtain ⟨rfl, HWC⟩ := hcut
        clear q0 q1 q2 q3
        by_cases hkd : u.nd.kind = stKind s
        · have hd9 : decide (u.nd.kind = stKind s) = true := by simpa using hkd
          rw [hd9]
          have hmany : u.nd.many = (u.ks.length : Int) := (okT_eq.1 HU.out).1
          have x1 := (HX.out a u.nd HAX.out).nd.c1
          rw [hmany] at x1
          have hB2 : Below w.heap.size w wc := HB1.out.trans (HWC.out.mono HB1.out.size)
          have HB2 := Lib.hid hB2
          have HST2 := Lib.hid (HST.out.below HWC.out HST.out.lt)
          have q1 := (hB2.cell (p := ⟨g, o + a * 6 + 1, none⟩) hg).trans x1
          have hflu := flat_eq u
          have HK0 : Hid (KdS t s u.ks post a 0 (a + 1)) := Lib.hid ⟨by
            have h1 := congrArg (List.drop 1) HDR.out
            rw [List.drop_drop, hflu] at h1
            simpa using h1, by simp, by
            have h1 := HLN.out
            rw [hflu, List.length_cons] at h1
            simp only [List.drop_zero]; omega, by simp⟩
          have HKS : Hid (okTs many u.ks ∧ ∀ s' p', errP (s' :: p') u = errP (s' :: p') u) := Lib.hid ⟨(okT_eq.1 HU.out).2, fun _ _ => rfl⟩
          have HKI : Hid (kid s u = seekN s (names u.ks) 0) := Lib.hid (by unfold kid; rw [if_pos hkd])
          have HEU : Hid (E = match kid s u with | none => 6 | some k' => errP (p.drop (k + 1)) (u.ks.getD k' u)) := Lib.hid (by rw [← HE.out, HER.out, errP, if_neg (by simpa using hkd)]; rfl)
          have HOU : Hid (offP p t = a + match kid s u with | none => 0 | some k' => 1 + (flats (u.ks.take k')).length + offP (p.drop (k + 1)) (u.ks.getD k' u)) := Lib.hid (by rw [HOF.out, offP]; rfl)
          clear hmany x1 hB2 hflu hd9
          have hmm9 : u.ks.length ≤ 100000 := by
            have h1 := flats_len u.ks
            have h2 := HLN.out
            rw [flat_eq u, List.length_cons, HN.out] at h2
            omega
          generalize hmm : u.ks.length = mm at *
          have HMM := Lib.hid hmm
          clear hmm
          have HBQ := Lib.hid (Below.refl wc.heap.size wc)
          rename World => wq
          go_wp2_with fail
          go_loopw [10, 6] (fun iv av wr => KdR t s u.ks post a mm wq iv av wr) (fun iv _ _ => mm - (intOf iv).toNat)
          case atStart => exact ⟨0, a + 1, Nat.zero_le _, rfl, by congr 1, HK0, HBQ⟩
          case round =>
            obtain ⟨j, b, hj, rfl, rfl, HK, HW⟩ := hrel.ex
            have hBW : Below w.heap.size w wr := HB2.out.trans (HW.out.mono HB2.out.size)
            have HBW := Lib.hid hBW
            by_cases hlt2 : j < mm
            · have hjl : j < u.ks.length := by rw [HMM.out]; exact hlt2
              have hdk : u.ks.drop j = u.ks[j] :: u.ks.drop (j + 1) := (List.getElem_cons_drop hjl).symm
              have hdr := HK.out.dr
              have hln := HK.out.ln
              have hsk := HK.out.sk
              rw [hdk] at hdr hln hsk
              rw [flats_cons] at hdr hln
              have hyp := flat_pos u.ks[j]
              have hby : (flat t)[b]? = some u.ks[j].nd := by
                have h1 : ((flat t).drop b)[0]? = some u.ks[j].nd := by rw [hdr, flat_eq]; rfl
                rwa [List.getElem?_drop, Nat.add_zero] at h1
              have hbN : b < N := by rw [HN.out, List.length_append] at hln; omega
              have y2 := (hBW.cell (p := ⟨g, o + b * 6 + 2, none⟩) hg).trans (HX.out b _ hby).nd.c2
              have hyo := okTs_all.1 HKS.out.1 u.ks[j] (List.getElem_mem hjl)
              have hgk : u.ks.getD j u = u.ks[j] := by simp [List.getD, hjl]
              have hnm : names (u.ks[j] :: u.ks.drop (j + 1)) = u.ks[j].nd.name :: names (u.ks.drop (j + 1)) := rfl
              rw [hnm, seekN] at hsk
              have htk : u.ks.take (j + 1) = u.ks.take j ++ [u.ks[j]] := List.take_succ_eq_append_getElem hjl
              have HLD : Hid (lead s j u.ks[j].nd.name = true → PlS p t (k + 1) b) := Lib.hid fun hld => by
                rw [if_pos hld] at hsk
                have h1 := HEU.out
                have h2 := HOU.out
                have h5 := HKI.out.trans hsk
                rw [h5] at h1 h2
                simp only at h1 h2
                rw [hgk] at h1 h2
                exact ⟨u.ks[j], flats (u.ks.drop (j + 1)) ++ post, hyo, by rw [hdr, List.append_assoc], by rw [List.length_append] at hln ⊢; omega, by rw [HE.out, h1], by rw [h2, HK.out.at']; omega⟩
              have HNX : Hid (lead s j u.ks[j].nd.name = false → KdS t s u.ks post a (j + 1) (b + (flat u.ks[j]).length)) := Lib.hid fun hld => by
                rw [if_neg (by rw [hld]; simp)] at hsk
                refine ⟨?_, ?_, ?_, hsk⟩
                · have h1 := congrArg (List.drop (flat u.ks[j]).length) hdr
                  rw [List.drop_drop, List.append_assoc, List.drop_left] at h1
                  exact h1
                · rw [htk, flats_append, List.length_append, HK.out.at']; simp; omega
                · rw [List.length_append] at hln; omega
              have HSK : Hid (skip many ((flat t).drop b) 1 = some (flats (u.ks.drop (j + 1)) ++ post)) := Lib.hid (by
                rw [hdr, List.append_assoc, skip_flat _ _ 0 hyo, skip_zero])
              have HMB : Hid (b + (flat u.ks[j]).length + (flats (u.ks.drop (j + 1)) ++ post).length = (flat t).length ∧ b ≤ (flat t).length) := Lib.hid (by
                rw [List.length_append] at hln ⊢; omega)
              have HVV : Hid (Nds wr (.slice (some ⟨g, o, none⟩) N c) (flat t)) := Lib.hid (HV.out.below hBW)
              have HST3 := Lib.hid (HST2.out.below HW.out HST2.out.lt)
              obtain ⟨t0, t1, t2⟩ := HST3.out.sp
              rw [Nat.zero_add] at t1 t2
              have hbN2 : (b : Int) < (N : Int) := by omega
              clear hdr hln hsk hdk hyo hby hgk hnm htk hyp hBW
              generalize u.ks[j].nd.name = yn at *
              generalize (flat u.ks[j]).length = yl at *
              go_upto_region 12 with fail
              go_cut [56] (fun s56 wx => s56 = .bool (lead s j yn) ∧ Hid (Below wr.heap.size wr wx))
              case first =>
                have HKQ : Hid (∀ W, Below wr.heap.size wr W → W.cell? ⟨g, o + b * 6 + 2, none⟩ = some (.string ⟨yn.toArray⟩) ∧ Below wr.heap.size wr W) := Lib.hid fun W hb => ⟨(hb.cell (p := ⟨g, o + b * 6 + 2, none⟩) (World.block_lt_of_cell? _ _ y2)).trans y2, hb⟩
                have HWD2 : Hid (Below wr.heap.size wr wr.drew) := Lib.hid (Below.refl _ wr).drew
                go_region_with (first | (go_at_call 112; refine (leads_any s j yn _).mono ?_; rintro e w3 ⟨rfl, hb3⟩))
                all_goals go_wp2_with fail
                all_goals go_meet
                all_goals exact ⟨rfl, Lib.hid ((Below.refl _ wr).drew.trans hb3)⟩
              case rest =>
                obtain ⟨rfl, HWC2⟩ := hcut
                have HBW2 : Hid (Below w.heap.size w wc) := Lib.hid (HBW.out.trans (HWC2.out.mono HBW.out.size))
                have HVC := Lib.hid (HVV.out.below HWC2.out)
                clear t0 t1 t2 y2
                cases hld : lead s j yn with
                | true =>
                  have HPN := Lib.hid (HLD.out hld)
                  clear hld
                  go_wp2_with fail
                  refine ⟨⟨k + 1, b, by omega, by congr 1, rfl, HPN, HBW2⟩, ?_⟩
                  simp [intOf]; omega
                | false =>
                  have HKN := Lib.hid (HNX.out hld)
                  clear hld
                  go_wp2_with fail
                  refine (ppast_any _ _ b (b + yl) _ _ HVC.out HMB.out.2 HSK.out (by rw [HN.out]; omega) HMB.out.1).mono ?_
                  rintro e w5 ⟨rfl, rfl⟩
                  go_wp2_with fail
                  refine ⟨⟨j + 1, b + yl, by omega, by congr 1, by congr 1, HKN, Lib.hid (HW.out.trans (HWC2.out.mono HW.out.size))⟩, ?_⟩
                  simp [intOf]; omega
            · obtain rfl : j = mm := by omega
              have hsk := HK.out.sk
              rw [List.drop_eq_nil_of_le (by rw [HMM.out]; omega)] at hsk
              have h5 := HKI.out.trans hsk
              have h1 := HEU.out
              rw [h5] at h1
              have hE6 : E = 6 := h1
              have hR0 : R = 0 := by
                rw [← HR.out, if_neg]
                omega
              clear hsk h5 h1
              go_wp2_with fail
              rw [Exit.noGoto_ret]
              exact bodyPost_ret (v := .tuple #[.int .i64 0, .int .i64 6]) (by simp [results, Tryz.results77, go_sem]) rfl ⟨by rw [hE6, hR0], HBW.out⟩
        · have hE5 : E = 5 := by
            rw [← HE.out, HER.out, errP, if_pos hkd]
          have hR0 : R = 0 := by
            rw [← HR.out, if_neg]
            omega
          have hd9 : decide (u.nd.kind = stKind s) = false := by simpa using hkd
          rw [hd9]
          have HBE : Hid (Below w.heap.size w wc) := Lib.hid (HB1.out.trans (HWC.out.mono HB1.out.size))
          go_wp2_with fail
          rw [Exit.noGoto_ret]
          exact bodyPost_ret (v := .tuple #[.int .i64 0, .int .i64 5]) (by simp [results, Tryz.results77, go_sem]) rfl ⟨by rw [hE5, hR0], HBE.out⟩
    · obtain rfl : k = n := by omega
      obtain ⟨u, post, hu, hdr, hln, her, hof⟩ := HS.out.ex
      rw [List.drop_eq_nil_of_le (by rw [HP.out]; omega)] at her hof
      have hE0 : E = 0 := by rw [← HE.out, her, errP]
      have hR0 : R = (a : Int) := by
        rw [← HR.out, if_pos hE0, hof, offP, Nat.add_zero]
      clear hdr hln her hof hu
      go_wp2_with fail
      rw [Exit.noGoto_ret]
      exact bodyPost_ret (v := .tuple #[.int .i64 (a : Int), .int .i64 0]) (by simp [results, Tryz.results77, go_sem]) rfl ⟨by rw [hE0, hR0], HB.out⟩
end Go.Proofs.YtafbojiojeemoaaGreatDoor

/-
  What path's Get answers.
-/
namespace Go.Proofs.YtafbojiojeemoaaGreatDoor
open Go.RowKit Np Rw Vp Pw

/-- What is got: the value, without a name; nothing, where nothing stands. -/
def gotP (p : List St) (t : Tr Nd) : List Nd := match subP p t with
  | none => []
  | some u => flat (nmd [] u)
set_option maxRecDepth 100000 in
set_option maxHeartbeats 4000000 in
theorem pget_any (pv v : Value) (p : List St) (t : Tr Nd) (w : World) (hp : Sps w pv p) (hv : Nds w v (flat t)) (ht : okT many t) (hl : (flat t).length ≤ 60000) (hpl : p.length ≤ 1000) :
    Calls Tryz.prog 41 #[pv, v] w fun e w' => ∃ (A : Option Addr) (n c : Nat), e = .returned (.tuple #[.slice A n c, .int .i64 (errP p t)]) ∧ Nds w' (.slice A n c) (gotP p t) ∧ Below w.heap.size w w' := by
  have HPL := Lib.hid (place_any pv v p t w hp hv ht (by omega) hpl)
  obtain ⟨P, pc, rfl, -⟩ := hp
  by_cases he : errP p t = 0
  · obtain ⟨u, hu⟩ := Option.isSome_iff_exists.1 ((errP_iff p t).1 he)
    obtain ⟨pre, post, hf, hpre, -⟩ := row_at p t u hu
    have hgot : gotP p t = flat (nmd [] u) := by rw [gotP, hu]
    have hou : okT many u := sub_ok p t u hu ht
    have HGOT := Lib.hid hgot
    obtain ⟨g, o, c, rfl, hc, hcm, hg, hx⟩ := hv.opened (flat_pos t)
    have hup := flat_pos u
    have hlen : pre.length + (flat u).length + post.length = (flat t).length := by rw [hf]; simp; omega
    have hdrop : (flat t).drop pre.length = flat u ++ post := by rw [hf, List.append_assoc, List.drop_left]
    have hs : skip many ((flat t).drop pre.length) 1 = some post := by rw [hdrop, skip_flat _ _ 0 hou, skip_zero]
    have h0 := hv.rest pre.length (by omega)
    have hdl : ((flat t).drop pre.length).length = (flat t).length - pre.length := List.length_drop
    have h1 : Nds w (.slice (some ⟨g, o + pre.length * 6, none⟩) ((flat t).drop pre.length).length (c - pre.length)) ((flat t).drop pre.length) := by rw [hdl]; exact h0
    have h2 := h1.front (flat u).length (by rw [hdl]; omega) (by omega) (by omega)
    have htk : ((flat t).drop pre.length).take (flat u).length = flat u := by rw [hdrop, List.take_left]
    rw [htk] at h2
    have HU := Lib.hid h2
    have HV := Lib.hid hv
    have HPS : Hid (∀ W, Below w.heap.size w W → Calls Tryz.prog 79 #[.slice (some ⟨g, o, none⟩) (flat t).length c, .int .i64 (pre.length : Nat)] W fun e w' => e = .returned (.int .i64 ((pre.length + (flat u).length : Nat) : Int)) ∧ w' = W) := Lib.hid fun W hb => ppast_any _ _ _ _ post W (hv.below hb) (by omega) hs (by omega) hlen
    have HCL : Hid (∀ W, Below w.heap.size w W → Calls Tryz.prog 78 #[.slice (some ⟨g, o + pre.length * 6, none⟩) (flat u).length (c - pre.length)] W (OwnsN W (flat u))) := Lib.hid fun W hb => clone_any _ _ W (h2.below hb) (by omega)
    rw [he] at HPL ⊢
    rw [if_pos rfl, ← hpre] at HPL
    have hb1 : pre.length < (flat t).length := by omega
    have hb2 : pre.length + (flat u).length ≤ (flat t).length := by omega
    have hU0 : flat u = u.nd :: flats u.ks := flat_eq u
    have HUE := Lib.hid hU0
    clear hf hgot hou hx hlen hdrop hs h0 hdl h1 h2 htk hpre hu he hv hU0
    generalize hN : (flat t).length = N at *
    generalize pre.length = a at *
    generalize hM : (flat u).length = M at *
    have HMM := Lib.hid hM
    clear hN hM
    have hMi : ((a + M : Nat) : Int) = (a : Int) + (M : Int) := by omega
    go_enter Tryz.func41, Tryz.ntmps41
    go_wp2_with fail
    refine HPL.out.mono ?_
    rintro e w1 ⟨rfl, hb3⟩
    have HB1 := Lib.hid hb3
    clear hb3
    go_wp2_with fail
    refine (HPS.out _ HB1.out).mono ?_
    rintro e w2 ⟨rfl, rfl⟩
    go_wp2_with fail
    refine (HCL.out _ HB1.out).mono ?_
    rintro e w3 ⟨v3, rfl, ho, hb4⟩
    obtain ⟨gb, cb, rfl, -, -⟩ := Own.opened ho (by rw [HMM.out]; omega)
    have hk0 : (flat u)[0]? = some u.nd := by rw [HUE.out]; rfl
    have s1 := Own.cell ndc_len (k := 0) (j := 2) (u := .string ⟨u.nd.name.toArray⟩) ho hk0 rfl
    have s2 := ho.free (0 * 6 + 2)
    have s3 := Own.put ndc_len (k := 0) (j := 2) (y := nmN [] u.nd) (u := .string ⟨#[]⟩) ho hk0 (by decide) rfl
    have hset : (flat u).set 0 (nmN [] u.nd) = flat (nmd [] u) := by rw [HUE.out, nmd, flat_mk]; rfl
    have hlo := (Own.lt ho).1
    have hsl : ((flat u).set 0 (nmN [] u.nd)).length = (flat u).length := List.length_set
    rw [HMM.out] at s3 hsl
    simp only [Nat.zero_mul, Nat.zero_add] at s1 s2 s3
    have HR : Hid (Nds (w3.setCell ⟨gb, 2, none⟩ (.string ⟨#[]⟩)) (.slice (some ⟨gb, 0, none⟩) M cb) (gotP p t)) := Lib.hid (by
      rw [HGOT.out, ← hset]
      exact s3.row ndc_len)
    have HB5 : Hid (Below w.heap.size w (w3.setCell ⟨gb, 2, none⟩ (.string ⟨#[]⟩))) := Lib.hid ((Below.after HB1.out hb4).setCell (Nat.le_trans HB1.out.size hlo) _)
    rw [HMM.out]
    clear hk0 s3 hset ho hb4 hlo hsl
    have hM0 : (M : Int) > 0 := by omega
    go_wp2_with fail
    exact bodyPost_ret (v := .tuple #[.slice (some ⟨gb, 0, none⟩) M cb, .int .i64 0]) (by simp [results, Tryz.results41, go_sem]) rfl ⟨_, _, _, rfl, HR.out, HB5.out⟩
  · have hsn : subP p t = none := by
      cases h : subP p t with
      | none => rfl
      | some u => exact absurd ((errP_iff p t).2 (by rw [h]; rfl)) he
    have HGOT : Hid (gotP p t = []) := Lib.hid (by rw [gotP, hsn])
    obtain ⟨B, c, rfl, -⟩ := hv
    rw [if_neg he] at HPL
    generalize errP p t = E at *
    have he2 : (!E == 0) = true := by simpa using he
    clear hsn
    go_enter Tryz.func41, Tryz.ntmps41
    go_wp2_with fail
    refine HPL.out.mono ?_
    rintro e w1 ⟨rfl, hb3⟩
    have HB1 := Lib.hid hb3
    clear hb3
    go_wp2_with fail
    exact bodyPost_ret (v := .tuple #[.slice none 0 0, .int .i64 E]) (by simp [results, Tryz.results41, go_sem]) rfl ⟨_, _, _, rfl, by rw [HGOT.out]; exact Row.nil _, HB1.out⟩
end Go.Proofs.YtafbojiojeemoaaGreatDoor
