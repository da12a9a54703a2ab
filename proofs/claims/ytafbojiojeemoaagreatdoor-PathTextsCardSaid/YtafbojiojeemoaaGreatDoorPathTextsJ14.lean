/-
  Joined: RefW7, PT6.
-/
import Derived.Test.YtafbojiojeemoaaGreatDoorPathTextsJ9
import Derived.Test.YtafbojiojeemoaaGreatDoorPathTextsJ2
import Derived.Test.YtafbojiojeemoaaGreatDoorRefW6
import Derived.Test.YtafbojiojeemoaaGreatDoorPathTextsJ16

/-
  What the document's own answers are: own, Parts, Names, Depth.
-/
namespace Go.Proofs.YtafbojiojeemoaaGreatDoor
open Go.RowKit Np Rw Vp

set_option maxRecDepth 100000 in
set_option maxHeartbeats 4000000 in
theorem refOwn_any (v : Value) (l : List Nd) (a b : Nat) (n : Nd) (rest : List Nd) (w : World) (hv : Nds w v l) (hl : l.length ≤ 65536) (hab : a < b) (hbl : b ≤ l.length) (hs : (l.drop a).take (b - a) = n :: rest) :
    Calls Tryz.prog 109 #[v, .int .i64 a, .int .i64 b] w (OwnsN w (noName n :: rest)) := by
  obtain ⟨g, o, c, rfl, hc, hcm, hg, -⟩ := hv.opened (by omega)
  have HPC : Hid (Nds w (.slice (some ⟨g, o + a * 6, none⟩) (b - a) (c - a)) (n :: rest)) := Lib.hid (by
    have := hv.piece a (b - a) (by omega)
    rwa [hs] at this)
  have HLN : Hid ((n :: rest).length = b - a) := Lib.hid (by rw [← hs]; simp; omega)
  clear hs hv
  generalize hn : l.length = N at *
  have hac : a ≤ c := by omega
  have hbc : b ≤ c := by omega
  have hane : ¬ a = c := by omega
  clear hn
  generalize hr : n :: rest = r at HPC HLN
  have HR := Lib.hid hr
  clear hr
  go_enter Tryz.func109, Tryz.ntmps109
  have HO0 : Hid (OwnN w.heap.size (w.alloc (.cells #[] 35)) (.slice (some ⟨w.heap.size, 0, none⟩) 0 0) []) := Lib.hid (by
    have := Own.lit (base := w.heap.size) (E := 35) ndc_len w #[] [] (Nat.le_refl _) (by simp) rfl
    simpa using this)
  go_wp2_with (at_builtin; refine wpList_append_row (base := w.heap.size) elNode rfl _ _ rfl rfl HO0.out rfl (HPC.out.below ((Below.refl _ _).alloc (Nat.le_refl _) _)) ?_ ?_ ?_ ?_)
  · have := HLN.out; unfold maxLen; simp only [List.length_nil]; omega
  · have := HLN.out; simp only [List.length_nil]; omega
  · simp
  · intro A3 c3 w3 hown3 hg3 hwh
    clear hwh
    have HO3 : Hid (OwnN w.heap.size w3 (.slice A3 r.length c3) r) := Lib.hid hown3
    have HB3 : Hid (Below w.heap.size w w3) := Lib.hid (((Below.refl w.heap.size w).alloc (Nat.le_refl _) (.cells #[] 35)).trans (HO0.out.kept hg3 (by simp)))
    clear hown3 hg3
    obtain ⟨g', rfl, hc3, HG⟩ : ∃ g', A3 = some ⟨g', 0, none⟩ ∧ b - a ≤ c3 ∧ Hid (w.heap.size ≤ g' ∧ g' < w3.heap.size) := by
      have h := HO3.out
      obtain ⟨g', cap, hv, h1, h2⟩ := h.opened (by have := HLN.out; omega)
      injection hv with e1 _ e3
      have := h.cap.2.1
      exact ⟨g', e1, by have := HLN.out; omega, Lib.hid ⟨h1, h2⟩⟩
    have hk0 : r[0]? = some n := by rw [← HR.out]; rfl
    have x0 := Own.cell ndc_len (j := 0) HO3.out hk0 rfl
    have x1 := Own.cell ndc_len (j := 1) HO3.out hk0 rfl
    have x2 := Own.cell ndc_len (j := 2) HO3.out hk0 rfl
    have x3 := Own.cell ndc_len (j := 3) HO3.out hk0 rfl
    have x4 := Own.cell ndc_len (j := 4) HO3.out hk0 rfl
    have x5 := Own.cell ndc_len (j := 5) HO3.out hk0 rfl
    simp only [Nat.zero_mul, Nat.zero_add] at x0 x1 x2 x3 x4 x5
    have HK0 := Lib.hid hk0
    clear hk0
    rw [HLN.out] at HO3 ⊢
    have hba : 0 < b - a := by omega
    have HTH : Hid (∀ ob : Obj, (w3.alloc ob).there g' 0 6) := Lib.hid (fun ob => by
      have h : OwnN w.heap.size (w3.alloc ob) (.slice (some ⟨g', 0, none⟩) r.length c3) r := by rw [HLN.out]; exact HO3.out.alloc ob
      have := Own.there ndc_len h HK0.out
      simpa using this)
    have HPU : Hid (∀ ob : Obj, OwnN w.heap.size ((w3.alloc ob).setCells g' 0 (ndc (noName n))) (.slice (some ⟨g', 0, none⟩) (b - a) c3) (noName n :: rest)) := Lib.hid (fun ob => by
      have h : OwnN w.heap.size (w3.alloc ob) (.slice (some ⟨g', 0, none⟩) r.length c3) r := by rw [HLN.out]; exact HO3.out.alloc ob
      have h2 := Own.puts (y := noName n) ndc_len h HK0.out
      rw [HLN.out] at h2
      rw [← HR.out] at h2
      simpa using h2)
    go_wp2_with (refine wpList_store_node rfl _ _ rfl g' 0 (noName n) rfl rfl (HTH.out _) ?_)
    go_ret
    exact ⟨_, rfl, HPU.out _, Below.setCells HG.out.1 _ _ (HB3.out.alloc HB3.out.size _)⟩

theorem Elems.aside {base : Nat} {W W' : World} {v : Value} {xs zs : List (Option Addr × Nat × Nat)} {L : List (List Nd)} (h : Elems base W zs L) (hv : Own slc 1 24 base W v xs) (hg : W.grownBy W' v.ownBlock) : Elems base W' zs L :=
  ⟨h.1, fun k z l hz hl => Own.aside (h.2 k z l hz hl) hv (by decide) hg⟩

/-- What is handed back is one's own, so that more can be appended to it. -/
def OwnsV (w : World) (L : List (List Nd)) (e : Ending) (w' : World) : Prop := ∃ v' zs, e = .returned v' ∧ Own slc 1 24 w.heap.size w' v' zs ∧ Elems w.heap.size w' zs L ∧ Below w.heap.size w w'
def OwnsS (w : World) (L : List (List UInt8)) (e : Ending) (w' : World) : Prop := ∃ v', e = .returned v' ∧ Own stc 1 9 w.heap.size w' v' L ∧ Below w.heap.size w w'

set_option maxRecDepth 100000 in
set_option maxHeartbeats 4000000 in
theorem refParts_own (v : Value) (t : Tr Nd) (w : World) (hv : Nds w v (flat t)) (hl : (flat t).length ≤ 65536) (ht : Val t) :
    Calls Tryz.prog 72 #[v] w (OwnsV w (t.ks.map fun k => flat (nmd [] k))) := by
  have hvo := hv
  obtain ⟨g, o, c, rfl, hc, hcm, hg, hx⟩ := hvo.opened (flat_pos t)
  have hmany : t.nd.many = t.ks.length := (okT_eq.1 ht.ok).1
  have a1 : w.cell? ⟨g, o + 1, none⟩ = some (.int .i64 (t.ks.length : Nat)) := by
    have := (hx 0 t.nd (by rw [flat_eq]; rfl)).nd.c1
    rw [hmany] at this
    simpa using this
  have HA1 := Lib.hid a1
  have HV := Lib.hid hv
  have HKS := Lib.hid (okT_eq.1 ht.ok).2
  have hkl : t.ks.length ≤ 65536 := by
    have h1 := flats_len t.ks
    rw [flat_eq] at hl
    simp at hl
    omega
  have hpos := flat_pos t
  have HDR : Hid (∀ pre post, t.ks = pre ++ post → (flat t).drop (1 + (flats pre).length) = flats post) := Lib.hid (fun pre post h => by
    rw [flat_eq, h, flats_append, Nat.add_comm, List.drop_succ_cons, List.drop_left])
  clear hx hv hvo hmany a1
  have HLL := Lib.hid hl
  generalize hn : (flat t).length = n at *
  have HN := Lib.hid hn
  clear hn
  generalize hq : t.ks.length = q at *
  have HQ := Lib.hid hq
  clear hq
  go_enter Tryz.func72, Tryz.ntmps72
  have HO0 : Hid (Own slc 1 24 w.heap.size (w.alloc (.cells #[] 24)) (.slice (some ⟨w.heap.size, 0, none⟩) 0 0) []) := Lib.hid (by
    have := Own.lit (base := w.heap.size) (E := 24) slc_len w #[] [] (Nat.le_refl _) (by simp) rfl
    simpa using this)
  go_wp2_with fail
  go_loopw [3, 4, 5] (fun ov iv kv wr => ∃ (pre post : List (Tr Nd)) (zs : List (Option Addr × Nat × Nat)), t.ks = pre ++ post ∧ kv = .int .i64 pre.length ∧ iv = .int .i64 (1 + (flats pre).length : Nat) ∧ Own slc 1 24 w.heap.size wr ov zs ∧ Elems w.heap.size wr zs (pre.map fun k => flat (nmd [] k)) ∧ Below w.heap.size w wr) (fun _ _ kv _ => q - (intOf kv).toNat)
  case atStart => exact ⟨[], t.ks, [], rfl, rfl, rfl, HO0.out, ⟨rfl, fun k z l h => by simp at h⟩, (Below.refl _ _).alloc (Nat.le_refl _) _⟩
  case round =>
    obtain ⟨pre, post, zs, hpp, rfl, rfl, hown, hels, hb⟩ := hrel
    have a2 := (hb.cell (p := ⟨g, o + 1, none⟩) hg).trans HA1.out
    have HO := Lib.hid hown
    have HE := Lib.hid hels
    have HB := Lib.hid hb
    have HP := Lib.hid hpp
    have hlen : pre.length + post.length = q := by rw [← HQ.out, hpp]; simp
    clear hown hels hb hpp
    cases post with
    | nil =>
      simp only [List.length_nil, Nat.add_zero] at hlen
      have HF : Hid (pre = t.ks) := Lib.hid (by rw [HP.out]; simp)
      have hlt : ¬ (pre.length : Int) < q := by omega
      have HLN := Lib.hid hlen
      clear hlen
      go_wp2_with fail
      go_ret
      exact ⟨_, _, rfl, HO.out, by have := HE.out; rwa [HF.out] at this, HB.out⟩
    | cons u rest =>
      simp only [List.length_cons] at hlen
      have hdr := HDR.out pre (u :: rest) HP.out
      rw [flats_cons] at hdr
      have hoku : okT many u := by have := HKS.out; rw [HP.out, okTs_append, okTs_cons] at this; exact this.2.1
      have hnx := nxt_at hdr hoku
      have hpl := part_lt hdr
      have hup := flat_pos u
      have hlt : (pre.length : Int) < q := by omega
      rw [HN.out] at hpl
      generalize hi : 1 + (flats pre).length = i at *
      generalize hm : (flat u).length = m at *
      have HNX := Lib.hid hnx
      have HDRU : Hid (((flat t).drop i).take (i + m - i) = u.nd :: flats u.ks) := Lib.hid (by
        rw [hdr, show i + m - i = m by omega, ← hm, List.take_left, ← flat_eq])
      have HIX : Hid (1 + (flats (pre ++ [u])).length = i + m) := Lib.hid (by rw [flats_append, flats_cons]; simp; omega)
      have HPL := Lib.hid hlen
      have HUM := Lib.hid hm
      clear hdr hoku hnx hi hm hlen
      have hib : i ≤ n := by omega
      have hOW := refOwn_any (.slice (some ⟨g, o, none⟩) n c) (flat t) i (i + m) u.nd (flats u.ks) wr (HV.out.below HB.out) (by rw [HN.out]; exact hl) (by omega) (by rw [HN.out]; exact hpl) HDRU.out
      rw [Int.natCast_add] at hOW
      have HOW := Lib.hid hOW
      clear hOW
      go_wp2_with (go_at_call 65; refine (refNext_any _ (flat t) i _ (HV.out.below HB.out) (by rw [HN.out]; exact hl) (by rw [HN.out]; exact hib)).mono ?_; rintro e w' ⟨rfl, rfl⟩; rw [HNX.out])
      refine HOW.out.mono ?_
      rintro e w1 ⟨v1, rfl, ho1, hb1⟩
      obtain ⟨A1, c1, rfl, -⟩ := ho1.form
      have HZ : Hid (OwnN w.heap.size w1 (.slice A1 (noName u.nd :: flats u.ks).length c1) (flat (nmd [] u))) := Lib.hid (by rw [nmd, flat_mk]; exact ho1.mono HB.out.size)
      have HO1 := Lib.hid (HO.out.below hb1)
      have HE1 := Lib.hid (HE.out.below hb1)
      have HB1 := Lib.hid (Below.after HB.out hb1)
      clear ho1 hb1 a2
      generalize (noName u.nd :: flats u.ks).length = m2 at HZ ⊢
      have HZL : Hid (zs.length + 1 ≤ 65537) := Lib.hid (by have := HE1.out.1; rw [List.length_map] at this; omega)
      go_wp2_with (at_builtin; refine wpList_append_row (base := w.heap.size) elVal rfl _ _ rfl rfl (HO1.out.alloc _) rfl (row_one slc_len w1 _ rfl 24 #[.slice A1 m2 c1] (A1, m2, c1) rfl) ?_ ?_ ?_ ?_)
      · have := HZL.out; unfold maxLen; simp only [List.length_singleton]; omega
      · have := HZL.out; simp only [List.length_singleton]; omega
      · have := HB1.out.size; simp; omega
      · intro A' c' w2 hown2 hg2 hwh
        clear hwh
        have HO2 : Hid (Own slc 1 24 w.heap.size w2 (.slice A' (zs.length + 1) c') (zs ++ [(A1, m2, c1)])) := Lib.hid hown2
        have HE2 : Hid (Elems w.heap.size w2 (zs ++ [(A1, m2, c1)]) ((pre ++ [u]).map fun k => flat (nmd [] k))) := Lib.hid (by
          have h1 : Elems w.heap.size w2 zs (pre.map fun k => flat (nmd [] k)) := (HE1.out.below ((Below.refl _ _).alloc (Nat.le_refl _) _)).aside (HO1.out.alloc _) hg2
          have h2 : OwnN w.heap.size w2 (.slice A1 m2 c1) (flat (nmd [] u)) := Own.aside (HZ.out.alloc _) (HO1.out.alloc _) (by decide) hg2
          rw [List.map_append]
          exact h1.snoc h2)
        have HB2 : Hid (Below w.heap.size w w2) := Lib.hid ((HB1.out.alloc HB1.out.size _).trans ((HO1.out.alloc _).kept hg2 (by have := HB1.out.size; simp; omega)))
        clear hown2 hg2
        generalize zs.length + 1 = zl at HO2 ⊢
        go_wp2_with fail
        go_roundw
        case rel => exact ⟨pre ++ [u], rest, zs ++ [(A1, m2, c1)], by rw [HP.out]; simp, by simp, by rw [HIX.out]; go_num, HO2.out, HE2.out, HB2.out⟩
        case measure => simp [intOf]; omega

theorem refParts_any (v : Value) (t : Tr Nd) (w : World) (hv : Nds w v (flat t)) (hl : (flat t).length ≤ 65536) (ht : Val t) :
    Calls Tryz.prog 72 #[v] w (GivesV w (t.ks.map fun k => flat (nmd [] k))) :=
  (refParts_own v t w hv hl ht).mono fun _ _ ⟨v', _, h1, h2, h3, h4⟩ => ⟨v', h1, h3.vls (h2.row slc_len), h4⟩

set_option maxRecDepth 100000 in
set_option maxHeartbeats 4000000 in
theorem refNames_own (v : Value) (t : Tr Nd) (w : World) (hv : Nds w v (flat t)) (hl : (flat t).length ≤ 65536) (ht : Val t) :
    Calls Tryz.prog 73 #[v] w (OwnsS w (namesT t)) := by
  have hvo := hv
  obtain ⟨g, o, c, rfl, hc, hcm, hg, hx⟩ := hvo.opened (flat_pos t)
  have hmany : t.nd.many = t.ks.length := (okT_eq.1 ht.ok).1
  have a1 : w.cell? ⟨g, o + 1, none⟩ = some (.int .i64 (t.ks.length : Nat)) := by
    have := (hx 0 t.nd (by rw [flat_eq]; rfl)).nd.c1
    rw [hmany] at this
    simpa using this
  have a0 : w.cell? ⟨g, o, none⟩ = some (.int .i64 t.nd.kind) := by
    have := (hx 0 t.nd (by rw [flat_eq]; rfl)).nd.c0
    simpa using this
  have HA1 := Lib.hid a1
  have HV := Lib.hid hv
  have HXX := Lib.hid hx
  have HKS := Lib.hid (okT_eq.1 ht.ok).2
  have hkl : t.ks.length ≤ 65536 := by
    have h1 := flats_len t.ks
    rw [flat_eq] at hl
    simp at hl
    omega
  have hpos := flat_pos t
  have HDR : Hid (∀ pre post, t.ks = pre ++ post → (flat t).drop (1 + (flats pre).length) = flats post) := Lib.hid (fun pre post h => by
    rw [flat_eq, h, flats_append, Nat.add_comm, List.drop_succ_cons, List.drop_left])
  clear hx hv hvo hmany a1
  generalize hn : (flat t).length = n at *
  have HN := Lib.hid hn
  clear hn
  generalize hq : t.ks.length = q at *
  have HQ := Lib.hid hq
  clear hq
  have HO0 : Hid (Own stc 1 9 w.heap.size (w.alloc (.cells #[] 9)) (.slice (some ⟨w.heap.size, 0, none⟩) 0 0) []) := Lib.hid (by
    have := Own.lit (base := w.heap.size) (E := 9) stc_len w #[] [] (Nat.le_refl _) (by simp) rfl
    simpa using this)
  by_cases hk : t.nd.kind = 6
  · have HNT : Hid (namesT t = t.ks.map fun k => k.nd.name) := Lib.hid (by rw [namesT, if_pos hk])
    rw [hk] at a0
    have HA0 := Lib.hid a0
    clear a0 hk
    go_enter Tryz.func73, Tryz.ntmps73
    go_wp2_with fail
    go_loopw [3, 4, 5] (fun ov iv kv wr => ∃ (pre post : List (Tr Nd)), t.ks = pre ++ post ∧ kv = .int .i64 pre.length ∧ iv = .int .i64 (1 + (flats pre).length : Nat) ∧ Own stc 1 9 w.heap.size wr ov (pre.map fun k => k.nd.name) ∧ Below w.heap.size w wr) (fun _ _ kv _ => q - (intOf kv).toNat)
    case atStart => exact ⟨[], t.ks, rfl, rfl, rfl, HO0.out, (Below.refl _ _).alloc (Nat.le_refl _) _⟩
    case round =>
      obtain ⟨pre, post, hpp, rfl, rfl, hown, hb⟩ := hrel
      have a2 := (hb.cell (p := ⟨g, o + 1, none⟩) hg).trans HA1.out
      have a3 := (hb.cell (p := ⟨g, o, none⟩) hg).trans HA0.out
      have HO := Lib.hid hown
      have HB := Lib.hid hb
      have HP := Lib.hid hpp
      have hlen : pre.length + post.length = q := by rw [← HQ.out, hpp]; simp
      clear hown hpp
      cases post with
      | nil =>
        simp only [List.length_nil, Nat.add_zero] at hlen
        have HF : Hid (pre = t.ks) := Lib.hid (by rw [HP.out]; simp)
        have hlt : ¬ (pre.length : Int) < q := by omega
        clear hlen hb
        go_wp2_with fail
        go_ret
        exact ⟨_, rfl, by rw [HNT.out, ← HF.out]; exact HO.out, HB.out⟩
      | cons u rest =>
        simp only [List.length_cons] at hlen
        have hdr := HDR.out pre (u :: rest) HP.out
        rw [flats_cons] at hdr
        have hoku : okT many u := by have := HKS.out; rw [HP.out, okTs_append, okTs_cons] at this; exact this.2.1
        have hnx := nxt_at hdr hoku
        have hpl := part_lt hdr
        have hup := flat_pos u
        have hlt : (pre.length : Int) < q := by omega
        have hhd := head_at hdr
        rw [HN.out] at hpl
        generalize hi : 1 + (flats pre).length = i at *
        have b2 := (hb.cell (p := ⟨g, o + i * 6 + 2, none⟩) hg).trans (HXX.out i _ hhd).nd.c2
        generalize hm : (flat u).length = m at *
        have HNX := Lib.hid hnx
        have HIX : Hid (1 + (flats (pre ++ [u])).length = i + m) := Lib.hid (by rw [flats_append, flats_cons]; simp; omega)
        have HPL : Hid (pre.length + 1 ≤ 65537) := Lib.hid (by omega)
        have hii : (i : Int) < n := by omega
        have hiin : i < n := by omega
        generalize hnm : u.nd.name = nm at b2
        have HNM := Lib.hid hnm
        have hprel : (pre.map fun k => k.nd.name).length = pre.length := by simp
        generalize hpn : (pre.map fun k => k.nd.name) = pn at HO hprel
        have HPN := Lib.hid hpn
        have HPNL := Lib.hid hprel
        have hlq := hlen
        clear hdr hoku hnx hi hm hlen hhd hnm hpn hprel hb
        have HLQ := Lib.hid hlq
        clear hlq
        go_wp2_with (at_builtin; refine wpList_append_row (base := w.heap.size) elText rfl _ _ rfl rfl (HO.out.alloc _) rfl (row_one stc_len wr _ rfl 9 #[.string ⟨nm.toArray⟩] nm rfl) ?_ ?_ ?_ ?_)
        · have := HPL.out; have := HPNL.out; unfold maxLen; simp only [List.length_singleton]; omega
        · have := HPL.out; have := HPNL.out; simp only [List.length_singleton]; omega
        · have := HB.out.size; simp; omega
        · intro A' c' w2 hown2 hg2 hwh
          clear hwh
          have HO2 : Hid (Own stc 1 9 w.heap.size w2 (.slice A' (pn.length + 1) c') (pn ++ [nm])) := Lib.hid hown2
          have HB2 : Hid (Below w.heap.size w w2) := Lib.hid ((HB.out.alloc HB.out.size _).trans ((HO.out.alloc _).kept hg2 (by have := HB.out.size; simp; omega)))
          clear hown2 hg2
          generalize pn.length + 1 = zl at HO2 ⊢
          have hib : i ≤ n := by omega
          clear a2 a3 b2
          go_wp2_with (go_at_call 65; refine (refNext_any _ (flat t) i _ (HV.out.below HB2.out) (by rw [HN.out]; exact hl) (by rw [HN.out]; exact hib)).mono ?_; rintro e w' ⟨rfl, rfl⟩; rw [HNX.out])
          go_roundw
          case rel => exact ⟨pre ++ [u], rest, by rw [HP.out]; simp, by simp, by rw [HIX.out]; go_num, by rw [List.map_append, HPN.out]; have := HO2.out; rw [← HNM.out] at this; exact this, HB2.out⟩
          case measure => have := HLQ.out; simp [intOf]; omega
  · have HNT : Hid (namesT t = []) := Lib.hid (by rw [namesT, if_neg hk])
    have e6 : (t.nd.kind == 6) = false := by simp [hk]
    have a1 := HA1.out
    clear hk
    go_enter Tryz.func73, Tryz.ntmps73
    go_wp2_with fail
    go_loopw [3, 4, 5] (fun ov iv kv wr => kv = .int .i64 0 ∧ ov = .slice (some ⟨w.heap.size, 0, none⟩) 0 0 ∧ wr = w.alloc (.cells #[] 9)) (fun _ _ _ _ => 0)
    case atStart => exact ⟨rfl, rfl, rfl⟩
    case round =>
      obtain ⟨rfl, rfl, rfl⟩ := hrel
      by_cases hq0 : 0 < q
      · have hq1 : (0 : Int) < q := by omega
        go_wp2_with fail
        go_ret
        exact ⟨_, rfl, by rw [HNT.out]; exact HO0.out, (Below.refl _ _).alloc (Nat.le_refl _) _⟩
      · have hq1 : ¬ (0 : Int) < q := by omega
        go_wp2_with fail
        go_ret
        exact ⟨_, rfl, by rw [HNT.out]; exact HO0.out, (Below.refl _ _).alloc (Nat.le_refl _) _⟩
theorem refNames_any (v : Value) (t : Tr Nd) (w : World) (hv : Nds w v (flat t)) (hl : (flat t).length ≤ 65536) (ht : Val t) :
    Calls Tryz.prog 73 #[v] w (GivesS w (namesT t)) :=
  (refNames_own v t w hv hl ht).mono fun _ _ ⟨v', h1, h2, h4⟩ => ⟨v', h1, h2.row stc_len, h4⟩
end Go.Proofs.YtafbojiojeemoaaGreatDoor

/-
  The document's own Begins and Read: their walks.
-/
namespace Go.Proofs.YtafbojiojeemoaaGreatDoor
open Go.RowKit Np Rw Vp Up Qp Pw

/-- What Begins answers. -/
def BegE (w : World) (l : List UInt8) (i : Nat) (R : List St × Nat) (e : Ending) (w' : World) : Prop := ∃ (A : Option Addr) (n c : Nat), e = .returned (.tuple #[.slice A n c, .int .i64 ((if R.1 = [] ∧ l[i]? = some 46 then i + 1 else R.2 : Nat) : Int)]) ∧ Sps w' (.slice A n c) R.1 ∧ Below w.heap.size w w'
theorem stepR_len {l : List UInt8} {b : Bool} {x : St × Nat} (h : stepR l b = some x) : 1 ≤ x.2 ∧ x.2 ≤ l.length := bgn_len (g := x.1) (n := x.2) (by rw [← step_eq]; exact h)
set_option maxRecDepth 100000 in
set_option maxHeartbeats 8000000 in
theorem refBegins_any (s : ByteArray) (i : Nat) (w : World) (hs : s.size ≤ 1000000) (hi : i ≤ s.size) :
    Calls Tryz.prog 45 #[.string s, .int .i64 i] w (BegE w s.data.toList i (bgsF (s.size + 1) [] s.data.toList i)) := by
  have HST := Lib.hid (fun (k : Nat) b W (hk : k ≤ s.size) => refStep_any s k b W hs hk)
  have HSL : Hid (∀ k b x, stepR (s.data.toList.drop k) b = some x → 1 ≤ x.2 ∧ x.2 ≤ s.size - k) := Lib.hid (fun k b x h => by
    have := stepR_len h
    rwa [List.length_drop, size_toList] at this)
  have HSI : Hid (∀ h : i < s.size, s.data.toList[i]? = some s[i]) := Lib.hid (fun h => by
    rw [List.getElem?_eq_getElem (by rw [size_toList]; exact h)]; rfl)
  have HSO : Hid (¬ i < s.size → s.data.toList[i]? = none) := Lib.hid (fun h => List.getElem?_eq_none (by rw [size_toList]; omega))
  generalize hR : bgsF (s.size + 1) [] s.data.toList i = R
  have HR := Lib.hid hR
  clear hR
  go_enter Tryz.func45, Tryz.ntmps45
  go_wp2_with fail
  go_loopw [1, 6] (fun fv pv wr => ∃ (k f : Nat) (acc : List St), k ≤ s.size ∧ s.size < k + f ∧ acc.length ≤ 20 ∧ fv = .int .i64 k ∧ (acc = [] → k = i) ∧ Own spc 3 74 w.heap.size wr pv acc ∧ Hid (bgsF f acc s.data.toList k = R) ∧ Hid (Below w.heap.size w wr)) (fun fv _ _ => s.size - (intOf fv).toNat)
  case atStart => exact ⟨i, s.size + 1, [], hi, by omega, by simp, rfl, fun _ => rfl, Own.lit spc_len w #[] [] (Nat.le_refl _) (Nat.zero_le _) rfl, HR, Lib.hid ((Below.refl _ _).alloc (Nat.le_refl _) _)⟩
  case round =>
    obtain ⟨k, f, acc, hk, hf, ha, rfl, hki, hown, HF, HB⟩ := hrel
    obtain ⟨f, rfl⟩ : ∃ g, f = g + 1 := ⟨f - 1, by omega⟩
    obtain ⟨A, c, rfl, -⟩ := hown.form
    have HO := Lib.hid hown
    clear hown
    by_cases h20 : acc.length < 20
    · have HC := Lib.hid (HST.out k (acc.length == 0) wr hk)
      have hl0 : (((acc.length : Nat) : Int) == 0) = (acc.length == 0) := by rw [Bool.eq_iff_iff]; simp
      cases hst : stepR (s.data.toList.drop k) (acc.length == 0) with
      | none =>
        have HFR : Hid (R = (acc, k)) := Lib.hid (by rw [← HF.out, bgsF, if_pos h20, hst])
        rw [hst, ← hl0] at HC
        simp only [stpV] at HC
        clear hst hl0
        go_wp2_with fail
        refine HC.out.mono ?_
        rintro e w1 ⟨rfl, hb1⟩
        have HO1 := Lib.hid (HO.out.below hb1)
        have HB1 : Hid (Below w.heap.size w w1) := Lib.hid (HB.out.trans (hb1.mono HB.out.size))
        clear hb1
        by_cases hac : acc = []
        · have hk2 := hki hac
          subst hk2
          have hl0 : acc.length = 0 := by rw [hac]; rfl
          by_cases hlt : k < s.size
          · have hat := HSI.out hlt
            by_cases h46 : s[k].toNat = 46
            · have hc46 : s[k] = 46 := by rw [← u8_of (c := s[k]) (n := 46) h46]; rfl
              have h46b : ((s[k].toNat : Int) == 46) = true := by simp; omega
              have HE : Hid ((if R.1 = [] ∧ s.data.toList[k]? = some 46 then k + 1 else R.2) = k + 1) := Lib.hid (by rw [HFR.out, if_pos ⟨hac, by rw [hat, hc46]⟩])
              clear hat hac
              generalize hz : acc.length = zl at *
              subst hl0
              go_wp2_with fail
              exact bodyPost_ret (v := .tuple #[.slice A 0 c, .int .i64 ((k + 1 : Nat) : Int)]) (by simp [results, Tryz.results45, go_sem]) rfl ⟨A, 0, c, by rw [HE.out], by rw [HFR.out, ← hz]; exact Own.row spc_len (by rw [hz]; exact HO1.out.alloc _), HB1.out.alloc HB1.out.size _⟩
            · have hc46 : ¬ s[k] = 46 := fun e => h46 (by rw [e]; rfl)
              have h46b : ((s[k].toNat : Int) == 46) = false := by simp; omega
              have HE : Hid ((if R.1 = [] ∧ s.data.toList[k]? = some 46 then k + 1 else R.2) = k) := Lib.hid (by rw [HFR.out, if_neg (by rw [hat]; rintro ⟨-, h⟩; injection h with h; exact hc46 h)])
              clear hat hac
              generalize hz : acc.length = zl at *
              subst hl0
              go_wp2_with fail
              exact bodyPost_ret (v := .tuple #[.slice A 0 c, .int .i64 ((k : Nat) : Int)]) (by simp [results, Tryz.results45, go_sem]) rfl ⟨A, 0, c, by rw [HE.out], by rw [HFR.out, ← hz]; exact Own.row spc_len (by rw [hz]; exact HO1.out.alloc _), HB1.out.alloc HB1.out.size _⟩
          · have HE : Hid ((if R.1 = [] ∧ s.data.toList[k]? = some 46 then k + 1 else R.2) = k) := Lib.hid (by rw [HFR.out, HSO.out hlt, if_neg (by rintro ⟨-, h⟩; cases h)])
            clear hac
            generalize hz : acc.length = zl at *
            subst hl0
            go_wp2_with fail
            exact bodyPost_ret (v := .tuple #[.slice A 0 c, .int .i64 ((k : Nat) : Int)]) (by simp [results, Tryz.results45, go_sem]) rfl ⟨A, 0, c, by rw [HE.out], by rw [HFR.out, ← hz]; exact Own.row spc_len (by rw [hz]; exact HO1.out.alloc _), HB1.out.alloc HB1.out.size _⟩
        · have HE : Hid ((if R.1 = [] ∧ s.data.toList[i]? = some 46 then i + 1 else R.2) = k) := Lib.hid (by rw [HFR.out, if_neg (by rintro ⟨h, -⟩; exact hac h)])
          have hpos : 0 < acc.length := List.length_pos_iff.2 hac
          have hne0 : (((acc.length : Nat) : Int) == 0) = false := by simp; omega
          clear hac
          generalize hz : acc.length = zl at *
          go_wp2_with fail
          exact bodyPost_ret (v := .tuple #[.slice A zl c, .int .i64 ((k : Nat) : Int)]) (by simp [results, Tryz.results45, go_sem]) rfl ⟨A, zl, c, by rw [HE.out], by rw [HFR.out, ← hz]; exact Own.row spc_len (by rw [hz]; exact HO1.out.alloc _), HB1.out.alloc HB1.out.size _⟩
      | some x =>
        obtain ⟨g, n⟩ := x
        obtain ⟨hn1, hn2⟩ := HSL.out k _ _ hst
        simp only at hn1 hn2
        have HFR : Hid (bgsF f (acc ++ [g]) s.data.toList (k + n) = R) := Lib.hid (by rw [← HF.out, bgsF, if_pos h20, hst])
        rw [hst, ← hl0] at HC
        simp only [stpV] at HC
        clear hst hl0
        have hto : (((k + n : Nat) : Int) == (k : Int)) = false := by simp; omega
        have hto2 : ((k : Int) + (n : Int) == (k : Int)) = false := by simp; omega
        go_wp2_with fail
        refine HC.out.mono ?_
        rintro e w1 ⟨rfl, hb1⟩
        have HO1 := Lib.hid (HO.out.below hb1)
        have HB1 : Hid (Below w.heap.size w w1) := Lib.hid (HB.out.trans (hb1.mono HB.out.size))
        clear hb1
        have HAL : Hid (acc.length < 20) := Lib.hid h20
        go_wp2_with (at_builtin; refine wpList_append_row (base := w.heap.size) elStep rfl _ _ rfl rfl ((HO1.out.alloc _).alloc _) rfl (row_one spc_len (w1.alloc (stepO g)) (w1.heap.size + 1) (by simp) 74 #[.bool g.part, .string ⟨g.name.toArray⟩, .int .i64 g.n] g rfl) ?_ ?_ ?_ ?_)
        · have := HAL.out; unfold maxLen; simp only [List.length_singleton]; omega
        · have := HAL.out; simp only [List.length_singleton]; omega
        · have := HB1.out.size; simp; omega
        · intro A' c' w2 hown2 hg2 hwh
          clear hwh
          have HO2 : Hid (Own spc 3 74 w.heap.size w2 (.slice A' (acc.length + 1) c') (acc ++ [g])) := Lib.hid hown2
          have HB2 : Hid (Below w.heap.size w w2) := Lib.hid (((HB1.out.alloc HB1.out.size _).alloc (by have := HB1.out.size; simp; omega) _).trans (((HO1.out.alloc _).alloc _).kept hg2 (by have := HB1.out.size; simp; omega)))
          clear hown2 hg2
          have HAL2 : Hid ((acc ++ [g]).length ≤ 20) := Lib.hid (by have := HAL.out; simp; omega)
          generalize hz : acc.length + 1 = zl at HO2 ⊢
          go_wp2_with fail
          refine ⟨⟨k + n, f, acc ++ [g], by omega, by omega, HAL2.out, by first | rfl | rw [Int.natCast_add], fun h => by simp at h, HO2.out, HFR, HB2⟩, ?_⟩
          simp [intOf]; omega
    · have HFR : Hid (R = (acc, k)) := Lib.hid (by rw [← HF.out, bgsF, if_neg h20])
      have hac : acc ≠ [] := by intro e; rw [e] at h20; simp at h20
      have HE : Hid ((if R.1 = [] ∧ s.data.toList[i]? = some 46 then i + 1 else R.2) = k) := Lib.hid (by rw [HFR.out, if_neg (by rintro ⟨h, -⟩; exact hac h)])
      have hne0 : (((acc.length : Nat) : Int) == 0) = false := by simp; omega
      clear hac
      generalize hz : acc.length = zl at *
      go_wp2_with fail
      exact bodyPost_ret (v := .tuple #[.slice A zl c, .int .i64 ((k : Nat) : Int)]) (by simp [results, Tryz.results45, go_sem]) rfl ⟨A, zl, c, by rw [HE.out], by rw [HFR.out, ← hz]; exact Own.row spc_len (by rw [hz]; exact HO.out), HB.out⟩
set_option maxRecDepth 100000 in
set_option maxHeartbeats 8000000 in
theorem refReadP_any (s : ByteArray) (w : World) (hs : s.size ≤ 1000000) :
    Calls Tryz.prog 23 #[.string s] w (ReadE w (readP s.data.toList)) := by
  have HBG := Lib.hid (refBegins_any s 0 w hs (Nat.zero_le _))
  by_cases hd : s.data.toList = [46]
  · have hz : s.size = 1 := by rw [← size_toList, hd]; rfl
    have HR : Hid (readP s.data.toList = ([], 0, 0)) := Lib.hid (by unfold readP; rw [if_pos hd])
    have hq : (s.toList == [46]) = true := by rw [ByteArray.toList_eq, hd]; rfl
    have HBN : Hid (bgsF (s.size + 1) [] s.data.toList 0 = ([], 0)) := Lib.hid (by
      rw [hd, bgsF, if_pos (by decide)]
      have : stepR (([46] : List UInt8).drop 0) (([] : List St).length == 0) = none := by rfl
      rw [this])
    rw [HBN.out] at HBG
    generalize readP s.data.toList = R at *
    go_enter Tryz.func23, Tryz.ntmps23
    go_wp2_with fail
    refine HBG.out.mono ?_
    rintro e w1 ⟨A, n, c, rfl, hl, hb⟩
    go_wp2_with fail
    exact bodyPost_ret (v := .tuple #[.slice A n c, .int .i64 0, .int .i64 0]) (by simp [results, Tryz.results23, go_sem]) rfl ⟨A, n, c, by rw [HR.out]; rfl, by rw [HR.out]; exact hl, hb⟩
  · have HR : Hid (readP s.data.toList = endR s.data.toList (bgsF (s.size + 1) [] s.data.toList 0)) := Lib.hid (by rw [readR_eq _ hd, size_toList])
    have hq : (s.toList == [46]) = false := by
      rw [ByteArray.toList_eq, beq_eq_false_iff_ne]
      exact hd
    generalize readP s.data.toList = R at *
    generalize hB : bgsF (s.size + 1) [] s.data.toList 0 = B at *
    obtain ⟨p, at0⟩ := B
    clear hB hd
    go_enter Tryz.func23, Tryz.ntmps23
    go_wp2_with fail
    refine HBG.out.mono ?_
    rintro e w1 ⟨A, n, c, rfl, hl, hb⟩
    have hn : n = p.length := by
      obtain ⟨B, d, hv, -⟩ := hl
      injection hv
    have HL := Lib.hid hl
    have HB := Lib.hid hb
    clear hl hb
    by_cases hp : p = []
    · have hn0 : n = 0 := by rw [hn, hp]; rfl
      have HE : Hid (R = ([], 0, 1)) := Lib.hid (by rw [HR.out]; unfold endR; rw [if_pos hp])
      generalize (if p = [] ∧ s.data.toList[0]? = some 46 then 0 + 1 else at0) = pl
      clear HR hn hp
      subst hn0
      go_wp2_with fail
      exact bodyPost_ret (v := .tuple #[.slice none 0 0, .int .i64 0, .int .i64 1]) (by simp [results, Tryz.results23, go_sem]) rfl ⟨none, 0, 0, by rw [HE.out]; rfl, by rw [HE.out]; exact Row.nil _, HB.out⟩
    · have hpos : 0 < n := by rw [hn]; exact List.length_pos_iff.2 hp
      have hn0 : ((n : Int) == 0) = false := by simp; omega
      rw [show (if p = [] ∧ s.data.toList[0]? = some 46 then 0 + 1 else at0) = at0 from if_neg (fun h => hp h.1)]
      by_cases hlt : at0 < s.size
      · have HE : Hid (R = ([], at0, 1)) := Lib.hid (by rw [HR.out]; unfold endR; rw [if_neg hp, if_pos (by rw [size_toList]; exact hlt)])
        clear HR hp hn
        go_wp2_with fail
        exact bodyPost_ret (v := .tuple #[.slice none 0 0, .int .i64 (at0 : Int), .int .i64 1]) (by simp [results, Tryz.results23, go_sem]) rfl ⟨none, 0, 0, by rw [HE.out], by rw [HE.out]; exact Row.nil _, HB.out⟩
      · have HE : Hid (R = (p, 0, 0)) := Lib.hid (by rw [HR.out]; unfold endR; rw [if_neg hp, if_neg (by rw [size_toList]; exact hlt)])
        clear HR hp hn
        go_wp2_with fail
        exact bodyPost_ret (v := .tuple #[.slice A n c, .int .i64 0, .int .i64 0]) (by simp [results, Tryz.results23, go_sem]) rfl ⟨A, n, c, by rw [HE.out]; rfl, by rw [HE.out]; exact HL.out, HB.out⟩
end Go.Proofs.YtafbojiojeemoaaGreatDoor
