/-
  Joined: RefW7, RefW9.
-/
import Derived.Test.YtafbojiojeemoaaGreatDoorTextCutJ7
import Derived.Test.YtafbojiojeemoaaGreatDoorTextCutJ1
import Derived.Test.YtafbojiojeemoaaGreatDoorRefW6

/-
  What the document's own answers are: own, Parts, Names, Depth.
-/
namespace Go.Proofs.YtafbojiojeemoaaGreatDoor
open Go.RowKit Np Rw Vp

set_option maxRecDepth 100000 in
set_option maxHeartbeats 4000000 in
theorem refOwn_any (v : Value) (l : List Nd) (a b : Nat) (n : Nd) (rest : List Nd) (w : World) (hv : Nds w v l) (hl : l.length ≤ 65536) (hab : a < b) (hbl : b ≤ l.length) (hs : (l.drop a).take (b - a) = n :: rest) :
    Calls Tryz.prog 109 #[v, .int .i64 a, .int .i64 b] w (OwnsN w (noName n :: rest)) := by
  obtain ⟨g, o, c, rfl, hc, hcm, hg, -⟩ := hv.opened (by omega)
  have HPC : Hid (Nds w (.slice (some ⟨g, o + a * 6, none⟩) (b - a) (c - a)) (n :: rest)) := Lib.hid (by
    have := hv.piece a (b - a) (by omega)
    rwa [hs] at this)
  have HLN : Hid ((n :: rest).length = b - a) := Lib.hid (by rw [← hs]; simp; omega)
  clear hs hv
  generalize hn : l.length = N at *
  have hac : a ≤ c := by omega
  have hbc : b ≤ c := by omega
  have hane : ¬ a = c := by omega
  clear hn
  generalize hr : n :: rest = r at HPC HLN
  have HR := Lib.hid hr
  clear hr
  go_enter Tryz.func109, Tryz.ntmps109
  have HO0 : Hid (OwnN w.heap.size (w.alloc (.cells #[] 35)) (.slice (some ⟨w.heap.size, 0, none⟩) 0 0) []) := Lib.hid (by
    have := Own.lit (base := w.heap.size) (E := 35) ndc_len w #[] [] (Nat.le_refl _) (by simp) rfl
    simpa using this)
  go_wp2_with (at_builtin; refine wpList_append_row (base := w.heap.size) elNode rfl _ _ rfl rfl HO0.out rfl (HPC.out.below ((Below.refl _ _).alloc (Nat.le_refl _) _)) ?_ ?_ ?_ ?_)
  · have := HLN.out; unfold maxLen; simp only [List.length_nil]; omega
  · have := HLN.out; simp only [List.length_nil]; omega
  · simp
  · intro A3 c3 w3 hown3 hg3 hwh
    clear hwh
    have HO3 : Hid (OwnN w.heap.size w3 (.slice A3 r.length c3) r) := Lib.hid hown3
    have HB3 : Hid (Below w.heap.size w w3) := Lib.hid (((Below.refl w.heap.size w).alloc (Nat.le_refl _) (.cells #[] 35)).trans (HO0.out.kept hg3 (by simp)))
    clear hown3 hg3
    obtain ⟨g', rfl, hc3, HG⟩ : ∃ g', A3 = some ⟨g', 0, none⟩ ∧ b - a ≤ c3 ∧ Hid (w.heap.size ≤ g' ∧ g' < w3.heap.size) := by
      have h := HO3.out
      obtain ⟨g', cap, hv, h1, h2⟩ := h.opened (by have := HLN.out; omega)
      injection hv with e1 _ e3
      have := h.cap.2.1
      exact ⟨g', e1, by have := HLN.out; omega, Lib.hid ⟨h1, h2⟩⟩
    have hk0 : r[0]? = some n := by rw [← HR.out]; rfl
    have x0 := Own.cell ndc_len (j := 0) HO3.out hk0 rfl
    have x1 := Own.cell ndc_len (j := 1) HO3.out hk0 rfl
    have x2 := Own.cell ndc_len (j := 2) HO3.out hk0 rfl
    have x3 := Own.cell ndc_len (j := 3) HO3.out hk0 rfl
    have x4 := Own.cell ndc_len (j := 4) HO3.out hk0 rfl
    have x5 := Own.cell ndc_len (j := 5) HO3.out hk0 rfl
    simp only [Nat.zero_mul, Nat.zero_add] at x0 x1 x2 x3 x4 x5
    have HK0 := Lib.hid hk0
    clear hk0
    rw [HLN.out] at HO3 ⊢
    have hba : 0 < b - a := by omega
    have HTH : Hid (∀ ob : Obj, (w3.alloc ob).there g' 0 6) := Lib.hid (fun ob => by
      have h : OwnN w.heap.size (w3.alloc ob) (.slice (some ⟨g', 0, none⟩) r.length c3) r := by rw [HLN.out]; exact HO3.out.alloc ob
      have := Own.there ndc_len h HK0.out
      simpa using this)
    have HPU : Hid (∀ ob : Obj, OwnN w.heap.size ((w3.alloc ob).setCells g' 0 (ndc (noName n))) (.slice (some ⟨g', 0, none⟩) (b - a) c3) (noName n :: rest)) := Lib.hid (fun ob => by
      have h : OwnN w.heap.size (w3.alloc ob) (.slice (some ⟨g', 0, none⟩) r.length c3) r := by rw [HLN.out]; exact HO3.out.alloc ob
      have h2 := Own.puts (y := noName n) ndc_len h HK0.out
      rw [HLN.out] at h2
      rw [← HR.out] at h2
      simpa using h2)
    go_wp2_with (refine wpList_store_node rfl _ _ rfl g' 0 (noName n) rfl rfl (HTH.out _) ?_)
    go_ret
    exact ⟨_, rfl, HPU.out _, Below.setCells HG.out.1 _ _ (HB3.out.alloc HB3.out.size _)⟩

theorem Elems.aside {base : Nat} {W W' : World} {v : Value} {xs zs : List (Option Addr × Nat × Nat)} {L : List (List Nd)} (h : Elems base W zs L) (hv : Own slc 1 24 base W v xs) (hg : W.grownBy W' v.ownBlock) : Elems base W' zs L :=
  ⟨h.1, fun k z l hz hl => Own.aside (h.2 k z l hz hl) hv (by decide) hg⟩

/-- What is handed back is one's own, so that more can be appended to it. -/
def OwnsV (w : World) (L : List (List Nd)) (e : Ending) (w' : World) : Prop := ∃ v' zs, e = .returned v' ∧ Own slc 1 24 w.heap.size w' v' zs ∧ Elems w.heap.size w' zs L ∧ Below w.heap.size w w'
def OwnsS (w : World) (L : List (List UInt8)) (e : Ending) (w' : World) : Prop := ∃ v', e = .returned v' ∧ Own stc 1 9 w.heap.size w' v' L ∧ Below w.heap.size w w'

set_option maxRecDepth 100000 in
set_option maxHeartbeats 4000000 in
theorem refParts_own (v : Value) (t : Tr Nd) (w : World) (hv : Nds w v (flat t)) (hl : (flat t).length ≤ 65536) (ht : Val t) :
    Calls Tryz.prog 72 #[v] w (OwnsV w (t.ks.map fun k => flat (nmd [] k))) := by
  have hvo := hv
  obtain ⟨g, o, c, rfl, hc, hcm, hg, hx⟩ := hvo.opened (flat_pos t)
  have hmany : t.nd.many = t.ks.length := (okT_eq.1 ht.ok).1
  have a1 : w.cell? ⟨g, o + 1, none⟩ = some (.int .i64 (t.ks.length : Nat)) := by
    have := (hx 0 t.nd (by rw [flat_eq]; rfl)).nd.c1
    rw [hmany] at this
    simpa using this
  have HA1 := Lib.hid a1
  have HV := Lib.hid hv
  have HKS := Lib.hid (okT_eq.1 ht.ok).2
  have hkl : t.ks.length ≤ 65536 := by
    have h1 := flats_len t.ks
    rw [flat_eq] at hl
    simp at hl
    omega
  have hpos := flat_pos t
  have HDR : Hid (∀ pre post, t.ks = pre ++ post → (flat t).drop (1 + (flats pre).length) = flats post) := Lib.hid (fun pre post h => by
    rw [flat_eq, h, flats_append, Nat.add_comm, List.drop_succ_cons, List.drop_left])
  clear hx hv hvo hmany a1
  have HLL := Lib.hid hl
  generalize hn : (flat t).length = n at *
  have HN := Lib.hid hn
  clear hn
  generalize hq : t.ks.length = q at *
  have HQ := Lib.hid hq
  clear hq
  go_enter Tryz.func72, Tryz.ntmps72
  have HO0 : Hid (Own slc 1 24 w.heap.size (w.alloc (.cells #[] 24)) (.slice (some ⟨w.heap.size, 0, none⟩) 0 0) []) := Lib.hid (by
    have := Own.lit (base := w.heap.size) (E := 24) slc_len w #[] [] (Nat.le_refl _) (by simp) rfl
    simpa using this)
  go_wp2_with fail
  go_loopw [3, 4, 5] (fun ov iv kv wr => ∃ (pre post : List (Tr Nd)) (zs : List (Option Addr × Nat × Nat)), t.ks = pre ++ post ∧ kv = .int .i64 pre.length ∧ iv = .int .i64 (1 + (flats pre).length : Nat) ∧ Own slc 1 24 w.heap.size wr ov zs ∧ Elems w.heap.size wr zs (pre.map fun k => flat (nmd [] k)) ∧ Below w.heap.size w wr) (fun _ _ kv _ => q - (intOf kv).toNat)
  case atStart => exact ⟨[], t.ks, [], rfl, rfl, rfl, HO0.out, ⟨rfl, fun k z l h => by simp at h⟩, (Below.refl _ _).alloc (Nat.le_refl _) _⟩
  case round =>
    obtain ⟨pre, post, zs, hpp, rfl, rfl, hown, hels, hb⟩ := hrel
    have a2 := (hb.cell (p := ⟨g, o + 1, none⟩) hg).trans HA1.out
    have HO := Lib.hid hown
    have HE := Lib.hid hels
    have HB := Lib.hid hb
    have HP := Lib.hid hpp
    have hlen : pre.length + post.length = q := by rw [← HQ.out, hpp]; simp
    clear hown hels hb hpp
    cases post with
    | nil =>
      simp only [List.length_nil, Nat.add_zero] at hlen
      have HF : Hid (pre = t.ks) := Lib.hid (by rw [HP.out]; simp)
      have hlt : ¬ (pre.length : Int) < q := by omega
      have HLN := Lib.hid hlen
      clear hlen
      go_wp2_with fail
      go_ret
      exact ⟨_, _, rfl, HO.out, by have := HE.out; rwa [HF.out] at this, HB.out⟩
    | cons u rest =>
      simp only [List.length_cons] at hlen
      have hdr := HDR.out pre (u :: rest) HP.out
      rw [flats_cons] at hdr
      have hoku : okT many u := by have := HKS.out; rw [HP.out, okTs_append, okTs_cons] at this; exact this.2.1
      have hnx := nxt_at hdr hoku
      have hpl := part_lt hdr
      have hup := flat_pos u
      have hlt : (pre.length : Int) < q := by omega
      rw [HN.out] at hpl
      generalize hi : 1 + (flats pre).length = i at *
      generalize hm : (flat u).length = m at *
      have HNX := Lib.hid hnx
      have HDRU : Hid (((flat t).drop i).take (i + m - i) = u.nd :: flats u.ks) := Lib.hid (by
        rw [hdr, show i + m - i = m by omega, ← hm, List.take_left, ← flat_eq])
      have HIX : Hid (1 + (flats (pre ++ [u])).length = i + m) := Lib.hid (by rw [flats_append, flats_cons]; simp; omega)
      have HPL := Lib.hid hlen
      have HUM := Lib.hid hm
      clear hdr hoku hnx hi hm hlen
      have hib : i ≤ n := by omega
      have hOW := refOwn_any (.slice (some ⟨g, o, none⟩) n c) (flat t) i (i + m) u.nd (flats u.ks) wr (HV.out.below HB.out) (by rw [HN.out]; exact hl) (by omega) (by rw [HN.out]; exact hpl) HDRU.out
      rw [Int.natCast_add] at hOW
      have HOW := Lib.hid hOW
      clear hOW
      go_wp2_with (go_at_call 65; refine (refNext_any _ (flat t) i _ (HV.out.below HB.out) (by rw [HN.out]; exact hl) (by rw [HN.out]; exact hib)).mono ?_; rintro e w' ⟨rfl, rfl⟩; rw [HNX.out])
      refine HOW.out.mono ?_
      rintro e w1 ⟨v1, rfl, ho1, hb1⟩
      obtain ⟨A1, c1, rfl, -⟩ := ho1.form
      have HZ : Hid (OwnN w.heap.size w1 (.slice A1 (noName u.nd :: flats u.ks).length c1) (flat (nmd [] u))) := Lib.hid (by rw [nmd, flat_mk]; exact ho1.mono HB.out.size)
      have HO1 := Lib.hid (HO.out.below hb1)
      have HE1 := Lib.hid (HE.out.below hb1)
      have HB1 := Lib.hid (Below.after HB.out hb1)
      clear ho1 hb1 a2
      generalize (noName u.nd :: flats u.ks).length = m2 at HZ ⊢
      have HZL : Hid (zs.length + 1 ≤ 65537) := Lib.hid (by have := HE1.out.1; rw [List.length_map] at this; omega)
      go_wp2_with (at_builtin; refine wpList_append_row (base := w.heap.size) elVal rfl _ _ rfl rfl (HO1.out.alloc _) rfl (row_one slc_len w1 _ rfl 24 #[.slice A1 m2 c1] (A1, m2, c1) rfl) ?_ ?_ ?_ ?_)
      · have := HZL.out; unfold maxLen; simp only [List.length_singleton]; omega
      · have := HZL.out; simp only [List.length_singleton]; omega
      · have := HB1.out.size; simp; omega
      · intro A' c' w2 hown2 hg2 hwh
        clear hwh
        have HO2 : Hid (Own slc 1 24 w.heap.size w2 (.slice A' (zs.length + 1) c') (zs ++ [(A1, m2, c1)])) := Lib.hid hown2
        have HE2 : Hid (Elems w.heap.size w2 (zs ++ [(A1, m2, c1)]) ((pre ++ [u]).map fun k => flat (nmd [] k))) := Lib.hid (by
          have h1 : Elems w.heap.size w2 zs (pre.map fun k => flat (nmd [] k)) := (HE1.out.below ((Below.refl _ _).alloc (Nat.le_refl _) _)).aside (HO1.out.alloc _) hg2
          have h2 : OwnN w.heap.size w2 (.slice A1 m2 c1) (flat (nmd [] u)) := Own.aside (HZ.out.alloc _) (HO1.out.alloc _) (by decide) hg2
          rw [List.map_append]
          exact h1.snoc h2)
        have HB2 : Hid (Below w.heap.size w w2) := Lib.hid ((HB1.out.alloc HB1.out.size _).trans ((HO1.out.alloc _).kept hg2 (by have := HB1.out.size; simp; omega)))
        clear hown2 hg2
        generalize zs.length + 1 = zl at HO2 ⊢
        go_wp2_with fail
        go_roundw
        case rel => exact ⟨pre ++ [u], rest, zs ++ [(A1, m2, c1)], by rw [HP.out]; simp, by simp, by rw [HIX.out]; go_num, HO2.out, HE2.out, HB2.out⟩
        case measure => simp [intOf]; omega

theorem refParts_any (v : Value) (t : Tr Nd) (w : World) (hv : Nds w v (flat t)) (hl : (flat t).length ≤ 65536) (ht : Val t) :
    Calls Tryz.prog 72 #[v] w (GivesV w (t.ks.map fun k => flat (nmd [] k))) :=
  (refParts_own v t w hv hl ht).mono fun _ _ ⟨v', _, h1, h2, h3, h4⟩ => ⟨v', h1, h3.vls (h2.row slc_len), h4⟩

set_option maxRecDepth 100000 in
set_option maxHeartbeats 4000000 in
theorem refNames_own (v : Value) (t : Tr Nd) (w : World) (hv : Nds w v (flat t)) (hl : (flat t).length ≤ 65536) (ht : Val t) :
    Calls Tryz.prog 73 #[v] w (OwnsS w (namesT t)) := by
  have hvo := hv
  obtain ⟨g, o, c, rfl, hc, hcm, hg, hx⟩ := hvo.opened (flat_pos t)
  have hmany : t.nd.many = t.ks.length := (okT_eq.1 ht.ok).1
  have a1 : w.cell? ⟨g, o + 1, none⟩ = some (.int .i64 (t.ks.length : Nat)) := by
    have := (hx 0 t.nd (by rw [flat_eq]; rfl)).nd.c1
    rw [hmany] at this
    simpa using this
  have a0 : w.cell? ⟨g, o, none⟩ = some (.int .i64 t.nd.kind) := by
    have := (hx 0 t.nd (by rw [flat_eq]; rfl)).nd.c0
    simpa using this
  have HA1 := Lib.hid a1
  have HV := Lib.hid hv
  have HXX := Lib.hid hx
  have HKS := Lib.hid (okT_eq.1 ht.ok).2
  have hkl : t.ks.length ≤ 65536 := by
    have h1 := flats_len t.ks
    rw [flat_eq] at hl
    simp at hl
    omega
  have hpos := flat_pos t
  have HDR : Hid (∀ pre post, t.ks = pre ++ post → (flat t).drop (1 + (flats pre).length) = flats post) := Lib.hid (fun pre post h => by
    rw [flat_eq, h, flats_append, Nat.add_comm, List.drop_succ_cons, List.drop_left])
  clear hx hv hvo hmany a1
  generalize hn : (flat t).length = n at *
  have HN := Lib.hid hn
  clear hn
  generalize hq : t.ks.length = q at *
  have HQ := Lib.hid hq
  clear hq
  have HO0 : Hid (Own stc 1 9 w.heap.size (w.alloc (.cells #[] 9)) (.slice (some ⟨w.heap.size, 0, none⟩) 0 0) []) := Lib.hid (by
    have := Own.lit (base := w.heap.size) (E := 9) stc_len w #[] [] (Nat.le_refl _) (by simp) rfl
    simpa using this)
  by_cases hk : t.nd.kind = 6
  · have HNT : Hid (namesT t = t.ks.map fun k => k.nd.name) := Lib.hid (by rw [namesT, if_pos hk])
    rw [hk] at a0
    have HA0 := Lib.hid a0
    clear a0 hk
    go_enter Tryz.func73, Tryz.ntmps73
    go_wp2_with fail
    go_loopw [3, 4, 5] (fun ov iv kv wr => ∃ (pre post : List (Tr Nd)), t.ks = pre ++ post ∧ kv = .int .i64 pre.length ∧ iv = .int .i64 (1 + (flats pre).length : Nat) ∧ Own stc 1 9 w.heap.size wr ov (pre.map fun k => k.nd.name) ∧ Below w.heap.size w wr) (fun _ _ kv _ => q - (intOf kv).toNat)
    case atStart => exact ⟨[], t.ks, rfl, rfl, rfl, HO0.out, (Below.refl _ _).alloc (Nat.le_refl _) _⟩
    case round =>
      obtain ⟨pre, post, hpp, rfl, rfl, hown, hb⟩ := hrel
      have a2 := (hb.cell (p := ⟨g, o + 1, none⟩) hg).trans HA1.out
      have a3 := (hb.cell (p := ⟨g, o, none⟩) hg).trans HA0.out
      have HO := Lib.hid hown
      have HB := Lib.hid hb
      have HP := Lib.hid hpp
      have hlen : pre.length + post.length = q := by rw [← HQ.out, hpp]; simp
      clear hown hpp
      cases post with
      | nil =>
        simp only [List.length_nil, Nat.add_zero] at hlen
        have HF : Hid (pre = t.ks) := Lib.hid (by rw [HP.out]; simp)
        have hlt : ¬ (pre.length : Int) < q := by omega
        clear hlen hb
        go_wp2_with fail
        go_ret
        exact ⟨_, rfl, by rw [HNT.out, ← HF.out]; exact HO.out, HB.out⟩
      | cons u rest =>
        simp only [List.length_cons] at hlen
        have hdr := HDR.out pre (u :: rest) HP.out
        rw [flats_cons] at hdr
        have hoku : okT many u := by have := HKS.out; rw [HP.out, okTs_append, okTs_cons] at this; exact this.2.1
        have hnx := nxt_at hdr hoku
        have hpl := part_lt hdr
        have hup := flat_pos u
        have hlt : (pre.length : Int) < q := by omega
        have hhd := head_at hdr
        rw [HN.out] at hpl
        generalize hi : 1 + (flats pre).length = i at *
        have b2 := (hb.cell (p := ⟨g, o + i * 6 + 2, none⟩) hg).trans (HXX.out i _ hhd).nd.c2
        generalize hm : (flat u).length = m at *
        have HNX := Lib.hid hnx
        have HIX : Hid (1 + (flats (pre ++ [u])).length = i + m) := Lib.hid (by rw [flats_append, flats_cons]; simp; omega)
        have HPL : Hid (pre.length + 1 ≤ 65537) := Lib.hid (by omega)
        have hii : (i : Int) < n := by omega
        have hiin : i < n := by omega
        generalize hnm : u.nd.name = nm at b2
        have HNM := Lib.hid hnm
        have hprel : (pre.map fun k => k.nd.name).length = pre.length := by simp
        generalize hpn : (pre.map fun k => k.nd.name) = pn at HO hprel
        have HPN := Lib.hid hpn
        have HPNL := Lib.hid hprel
        have hlq := hlen
        clear hdr hoku hnx hi hm hlen hhd hnm hpn hprel hb
        have HLQ := Lib.hid hlq
        clear hlq
        go_wp2_with (at_builtin; refine wpList_append_row (base := w.heap.size) elText rfl _ _ rfl rfl (HO.out.alloc _) rfl (row_one stc_len wr _ rfl 9 #[.string ⟨nm.toArray⟩] nm rfl) ?_ ?_ ?_ ?_)
        · have := HPL.out; have := HPNL.out; unfold maxLen; simp only [List.length_singleton]; omega
        · have := HPL.out; have := HPNL.out; simp only [List.length_singleton]; omega
        · have := HB.out.size; simp; omega
        · intro A' c' w2 hown2 hg2 hwh
          clear hwh
          have HO2 : Hid (Own stc 1 9 w.heap.size w2 (.slice A' (pn.length + 1) c') (pn ++ [nm])) := Lib.hid hown2
          have HB2 : Hid (Below w.heap.size w w2) := Lib.hid ((HB.out.alloc HB.out.size _).trans ((HO.out.alloc _).kept hg2 (by have := HB.out.size; simp; omega)))
          clear hown2 hg2
          generalize pn.length + 1 = zl at HO2 ⊢
          have hib : i ≤ n := by omega
          clear a2 a3 b2
          go_wp2_with (go_at_call 65; refine (refNext_any _ (flat t) i _ (HV.out.below HB2.out) (by rw [HN.out]; exact hl) (by rw [HN.out]; exact hib)).mono ?_; rintro e w' ⟨rfl, rfl⟩; rw [HNX.out])
          go_roundw
          case rel => exact ⟨pre ++ [u], rest, by rw [HP.out]; simp, by simp, by rw [HIX.out]; go_num, by rw [List.map_append, HPN.out]; have := HO2.out; rw [← HNM.out] at this; exact this, HB2.out⟩
          case measure => have := HLQ.out; simp [intOf]; omega
  · have HNT : Hid (namesT t = []) := Lib.hid (by rw [namesT, if_neg hk])
    have e6 : (t.nd.kind == 6) = false := by simp [hk]
    have a1 := HA1.out
    clear hk
    go_enter Tryz.func73, Tryz.ntmps73
    go_wp2_with fail
    go_loopw [3, 4, 5] (fun ov iv kv wr => kv = .int .i64 0 ∧ ov = .slice (some ⟨w.heap.size, 0, none⟩) 0 0 ∧ wr = w.alloc (.cells #[] 9)) (fun _ _ _ _ => 0)
    case atStart => exact ⟨rfl, rfl, rfl⟩
    case round =>
      obtain ⟨rfl, rfl, rfl⟩ := hrel
      by_cases hq0 : 0 < q
      · have hq1 : (0 : Int) < q := by omega
        go_wp2_with fail
        go_ret
        exact ⟨_, rfl, by rw [HNT.out]; exact HO0.out, (Below.refl _ _).alloc (Nat.le_refl _) _⟩
      · have hq1 : ¬ (0 : Int) < q := by omega
        go_wp2_with fail
        go_ret
        exact ⟨_, rfl, by rw [HNT.out]; exact HO0.out, (Below.refl _ _).alloc (Nat.le_refl _) _⟩
theorem refNames_any (v : Value) (t : Tr Nd) (w : World) (hv : Nds w v (flat t)) (hl : (flat t).length ≤ 65536) (ht : Val t) :
    Calls Tryz.prog 73 #[v] w (GivesS w (namesT t)) :=
  (refNames_own v t w hv hl ht).mono fun _ _ ⟨v', h1, h2, h4⟩ => ⟨v', h1, h2.row stc_len, h4⟩
end Go.Proofs.YtafbojiojeemoaaGreatDoor

/-
  What the document's own answers List and named are.
-/
namespace Go.Proofs.YtafbojiojeemoaaGreatDoor
open Go.RowKit Np Rw Vp

theorem own_head (w : World) (E : Nat) (hE : E = 35) (k n : Nat) : OwnN w.heap.size (w.alloc (.cells #[.int .i64 (k : Int), .int .i64 (n : Int), .string ⟨#[]⟩, .string ⟨#[]⟩, .bool false, .int .i64 0] E)) (.slice (some ⟨w.heap.size, 0, none⟩) 1 1) [hdN k n] := by
  subst hE
  exact Own.lit (base := w.heap.size) ndc_len w _ [hdN k n] (Nat.le_refl _) (by unfold maxLen; simp) rfl

set_option maxRecDepth 100000 in
set_option maxHeartbeats 2000000 in
theorem refList_any (v : Value) (L : List (List Nd)) (w : World) (hv : Vls w v L) (hb1 : L.length ≤ 65536) (hb2 : (L.map List.length).sum ≤ 131072) :
    Calls Tryz.prog 19 #[v] w (OwnsN w (hdN 5 L.length :: L.flatten)) := by
  obtain ⟨us, hul, hu, hur⟩ := hv
  obtain ⟨A, c, rfl, -, -, -, H⟩ := hu
  have HUL := Lib.hid hul
  have HU := Lib.hid hur
  have HH := Lib.hid H
  have HB2 := Lib.hid hb2
  clear hur H hb2
  rw [← hul] at hb1
  clear hul
  generalize hn : us.length = n at *
  have HN := Lib.hid hn; clear hn
  have HO0 : Hid (OwnN w.heap.size (w.alloc (.cells #[.int .i64 5, .int .i64 (n : Int), .string ⟨#[]⟩, .string ⟨#[]⟩, .bool false, .int .i64 0] 35)) (.slice (some ⟨w.heap.size, 0, none⟩) 1 1) (hdN 5 L.length :: (L.take 0).flatten)) := Lib.hid (by rw [← HUL.out]; exact own_head w _ rfl 5 n)
  go_enter Tryz.func19, Tryz.ntmps19
  go_wp2_with fail
  go_loopw [3, 4] (fun vv i wr => ∃ k : Nat, k ≤ n ∧ i = .int .i64 k ∧ OwnN w.heap.size wr vv (hdN 5 L.length :: (L.take k).flatten) ∧ Below w.heap.size w wr) (fun _ i _ => n - (intOf i).toNat)
  case atStart => exact ⟨0, Nat.zero_le _, rfl, HO0.out, (Below.refl _ _).alloc (Nat.le_refl _) _⟩
  case round =>
    obtain ⟨j, hj, rfl, hown, hbw⟩ := hrel
    have HO := Lib.hid hown
    have HBW := Lib.hid hbw
    by_cases hlt2 : j < n
    · obtain ⟨g, o, rfl, hg, hx⟩ := HH.out (by omega)
      obtain ⟨x, hxk⟩ : ∃ a, us[j]? = some a := ⟨_, List.getElem?_eq_getElem (by rw [HN.out]; exact hlt2)⟩
      obtain ⟨a, ha⟩ : ∃ a, L[j]? = some a := ⟨_, List.getElem?_eq_getElem (by rw [← HUL.out]; exact hlt2)⟩
      have a0 := (hbw.cell (p := ⟨g, o + j, none⟩) hg).trans (hx j x hxk).one
      have HRA : Hid (Nds wr x a) := Lib.hid ((HU.out j x a hxk ha).below hbw)
      have HS : Hid (hdN 5 L.length :: (L.take (j + 1)).flatten = (hdN 5 L.length :: (L.take j).flatten) ++ a) := Lib.hid (by rw [List.take_add_one, ha]; simp)
      have HLN : Hid ((hdN 5 L.length :: (L.take j).flatten).length + a.length ≤ 131073) := Lib.hid (by
        have h1 := sum_take ha
        have h2 := sum_take_le L (j + 1)
        have h3 := HB2.out
        rw [List.length_cons, List.length_flatten]; omega)
      generalize hdN 5 L.length :: (L.take j).flatten = l1 at HO HS HLN
      clear ha hxk hx hown hbw
      go_wp2_with (at_builtin; refine wpList_append_row (base := w.heap.size) elNode rfl _ _ rfl rfl HO.out rfl HRA.out ?_ ?_ ?_ ?_)
      · have := HLN.out; unfold maxLen; omega
      · have := HLN.out; omega
      · exact HBW.out.size
      · intro A' c' w2 hown2 hg2 hwh
        clear hwh
        have HO2 : Hid (OwnN w.heap.size w2 (.slice A' (l1.length + a.length) c') (l1 ++ a)) := Lib.hid (by simpa using hown2)
        have HG2 := Lib.hid hg2
        clear hown2 hg2 a0
        generalize l1.length + a.length = q2 at HO2 ⊢
        go_wp2_with fail
        go_roundw
        case rel => exact ⟨j + 1, by omega, by go_num, by rw [HS.out]; exact HO2.out, HBW.out.trans (HO.out.kept HG2.out HBW.out.size)⟩
        case measure => simp [intOf]; omega
    · have HE : Hid (L.take j = L) := Lib.hid (List.take_of_length_le (by rw [← HUL.out]; omega))
      clear hown hbw
      go_wp2_with fail
      go_ret
      exact ⟨_, rfl, by have := HO.out; rwa [HE.out] at this, HBW.out⟩

set_option maxRecDepth 100000 in
set_option maxHeartbeats 4000000 in
theorem refNamed_any (v u : Value) (names : List (List UInt8)) (L : List (List Nd)) (w : World) (hv : Sts w v names) (hu : Vls w u L) (hl : names.length = L.length) (hb1 : L.length ≤ 65536) (hb2 : (L.map List.length).sum ≤ 131072) (hne : ∀ l ∈ L, l ≠ []) :
    Calls Tryz.prog 39 #[v, u] w (OwnsN w (hdN 6 L.length :: laid (names.zip L))) := by
  obtain ⟨us, hul, hu, hur⟩ := hu
  obtain ⟨A, c, rfl, -, -, -, H⟩ := hu
  obtain ⟨A0, c0, rfl, -, -, -, H0⟩ := hv
  have HUL := Lib.hid hul
  have HU := Lib.hid hur
  have HH := Lib.hid H
  have HH0 := Lib.hid H0
  have HB2 := Lib.hid hb2
  have HNE := Lib.hid hne
  have HLL := Lib.hid hl
  clear hur H hb2 hne H0
  rw [hl, ← hul]
  rw [← hul] at hb1
  clear hul hl
  generalize hn : us.length = n at *
  have HN := Lib.hid hn; clear hn
  have HO0 : Hid (OwnN w.heap.size (w.alloc (.cells #[.int .i64 6, .int .i64 (n : Int), .string ⟨#[]⟩, .string ⟨#[]⟩, .bool false, .int .i64 0] 35)) (.slice (some ⟨w.heap.size, 0, none⟩) 1 1) (hdN 6 n :: laid ((names.zip L).take 0))) := Lib.hid (own_head w _ rfl 6 n)
  go_enter Tryz.func39, Tryz.ntmps39
  go_wp2_with fail
  go_loopw [5, 6] (fun vv i wr => ∃ k : Nat, k ≤ n ∧ i = .int .i64 k ∧ OwnN w.heap.size wr vv (hdN 6 n :: laid ((names.zip L).take k)) ∧ Below w.heap.size w wr) (fun _ i _ => n - (intOf i).toNat)
  case atStart => exact ⟨0, Nat.zero_le _, rfl, HO0.out, (Below.refl _ _).alloc (Nat.le_refl _) _⟩
  case round =>
    obtain ⟨j, hj, rfl, hown, hbw⟩ := hrel
    have HO := Lib.hid hown
    have HBW := Lib.hid hbw
    by_cases hlt2 : j < n
    · obtain ⟨g, o, rfl, hg, hx⟩ := HH.out (by omega)
      obtain ⟨g0, o0, rfl, hg0, hx0⟩ := HH0.out (by rw [HLL.out, ← HUL.out]; omega)
      obtain ⟨x, hxk⟩ : ∃ a, us[j]? = some a := ⟨_, List.getElem?_eq_getElem (by rw [HN.out]; exact hlt2)⟩
      obtain ⟨nm, hnm⟩ : ∃ a, names[j]? = some a := ⟨_, List.getElem?_eq_getElem (by rw [HLL.out, ← HUL.out]; exact hlt2)⟩
      obtain ⟨a, ha⟩ : ∃ a, L[j]? = some a := ⟨_, List.getElem?_eq_getElem (by rw [← HUL.out]; exact hlt2)⟩
      have a0 := (hbw.cell (p := ⟨g, o + j, none⟩) hg).trans (hx j x hxk).one
      have HNC : Hid (w.cell? ⟨g0, o0 + j, none⟩ = some (.string ⟨nm.toArray⟩)) := Lib.hid (hx0 j nm hnm).st
      have HG0 := Lib.hid hg0
      obtain ⟨y, ys, hya⟩ : ∃ y ys, a = y :: ys := by
        cases a with
        | nil => exact absurd rfl (HNE.out [] (List.mem_of_getElem? ha))
        | cons y ys => exact ⟨y, ys, rfl⟩
      have HRA : Hid (Nds wr x a) := Lib.hid ((HU.out j x a hxk ha).below hbw)
      have HS : Hid (hdN 6 n :: laid ((names.zip L).take (j + 1)) = (hdN 6 n :: laid ((names.zip L).take j)) ++ setNm nm a) := Lib.hid (by
        have hz : (names.zip L)[j]? = some (nm, a) := by rw [List.getElem?_zip_eq_some]; exact ⟨hnm, ha⟩
        rw [List.take_add_one, hz]; simp [laid_snoc])
      have HLN : Hid ((hdN 6 n :: laid ((names.zip L).take j)).length + a.length ≤ 131073) := Lib.hid (by
        have h1 := sum_take ha
        have h2 := sum_take_le L (j + 1)
        have h3 := HB2.out
        have h4 : (((names.zip L).take j).map fun p : Pr => p.2.length).sum = ((L.take j).map List.length).sum := by
          have : ((names.zip L).take j).map (fun p : Pr => p.2.length) = (L.take j).map List.length := by
            rw [show (fun p : Pr => p.2.length) = List.length ∘ Prod.snd from rfl, ← List.map_map, List.map_take, List.map_snd_zip (by rw [HLL.out]; exact Nat.le_refl _)]
          rw [this]
        rw [List.length_cons, laid_len]; omega)
      generalize hdN 6 n :: laid ((names.zip L).take j) = l1 at HO HS HLN
      have HYA := Lib.hid hya
      have hapos : 0 < a.length := by rw [hya]; simp
      clear ha hxk hx hown hbw hnm hx0 hya
      obtain ⟨Ao, co, rfl, -⟩ := HO.out.form
      generalize hal : a.length = al at *
      have HAL := Lib.hid hal
      clear hal
      go_wp2_with (at_builtin; refine wpList_append_row (base := w.heap.size) elNode rfl _ _ rfl rfl HO.out rfl HRA.out ?_ ?_ ?_ ?_)
      · have := HLN.out; have := HAL.out; unfold maxLen; omega
      · have := HLN.out; have := HAL.out; omega
      · exact HBW.out.size
      · intro A' c' w2 hown2 hg2 hwh
        clear hwh
        rw [HAL.out]
        have HLA : Hid ((l1 ++ a).length = l1.length + al) := Lib.hid (by rw [List.length_append, HAL.out])
        have HO2 : Hid (OwnN w.heap.size w2 (.slice A' (l1 ++ a).length c') (l1 ++ a)) := Lib.hid (by simpa using hown2)
        have HB2' : Hid (Below w.heap.size w w2) := Lib.hid (HBW.out.trans (HO.out.kept hg2 HBW.out.size))
        clear hown2 hg2 a0
        obtain ⟨g', rfl, hc3, HG⟩ : ∃ g', A' = some ⟨g', 0, none⟩ ∧ l1.length + al ≤ c' ∧ Hid (w.heap.size ≤ g' ∧ g' < w2.heap.size) := by
          have h := HO2.out
          obtain ⟨g', cap, hv, h1, h2⟩ := h.opened (by rw [HLA.out]; omega)
          injection hv with e1 _ e3
          have := h.cap.2.1
          exact ⟨g', e1, by rw [← HLA.out]; exact this, Lib.hid ⟨h1, h2⟩⟩
        have hk0 : (l1 ++ a)[l1.length]? = some y := by rw [HYA.out]; simp
        have x0 := Own.cell ndc_len (j := 0) HO2.out hk0 rfl
        have x1 := Own.cell ndc_len (j := 1) HO2.out hk0 rfl
        have x2 := Own.cell ndc_len (j := 2) HO2.out hk0 rfl
        have x3 := Own.cell ndc_len (j := 3) HO2.out hk0 rfl
        have x4 := Own.cell ndc_len (j := 4) HO2.out hk0 rfl
        have x5 := Own.cell ndc_len (j := 5) HO2.out hk0 rfl
        simp only [Nat.add_zero] at x0
        have HTH : Hid (∀ ob : Obj, (w2.alloc ob).there g' (l1.length * 6) 6) := Lib.hid (fun ob => Own.there ndc_len (HO2.out.alloc ob) hk0)
        have HPU : Hid (∀ ob : Obj, OwnN w.heap.size ((w2.alloc ob).setCells g' (l1.length * 6) (ndc (nmN nm y))) (.slice (some ⟨g', 0, none⟩) (l1.length + al) c') (l1 ++ setNm nm a)) := Lib.hid (fun ob => by
          have h2 := Own.puts (y := nmN nm y) ndc_len (HO2.out.alloc ob) hk0
          rw [HLA.out] at h2
          have e : (l1 ++ a).set l1.length (nmN nm y) = l1 ++ setNm nm a := by rw [HYA.out, List.set_append_right _ _ (Nat.le_refl _)]; simp [setNm, nmN]
          rwa [e] at h2)
        have n0 := (HB2'.out.cell (p := ⟨g0, o0 + j, none⟩) HG0.out).trans HNC.out
        rw [HLA.out] at HO2
        clear hk0
        generalize hq : l1.length = q at *
        have HQ := Lib.hid hq
        clear hq
        have hqs : q ≤ 131073 := by have := HLN.out; omega
        have hqi : (q : Int) < q + al := by omega
        have hqn : q < q + al := by omega
        have hg02 : g0 < w2.heap.size := Nat.lt_of_lt_of_le HG0.out HB2'.out.size
        have hqi2 : (0 : Int) < al := by omega
        go_upto_region 9 with fail
        have HTH1 := Lib.hid (HTH.out (.cells #[.int .i64 y.kind, .int .i64 y.many, .string ⟨nm.toArray⟩, .string ⟨y.s.toArray⟩, .bool y.neg, .int .i64 y.e] 35))
        have HPU1 := Lib.hid (HPU.out (.cells #[.int .i64 y.kind, .int .i64 y.many, .string ⟨nm.toArray⟩, .string ⟨y.s.toArray⟩, .bool y.neg, .int .i64 y.e] 35))
        have HBA : Hid (Below w.heap.size w (w2.alloc (.cells #[.int .i64 y.kind, .int .i64 y.many, .string ⟨nm.toArray⟩, .string ⟨y.s.toArray⟩, .bool y.neg, .int .i64 y.e] 35))) := Lib.hid (HB2'.out.alloc HB2'.out.size _)
        have cB : (w2.alloc (.cells #[.int .i64 y.kind, .int .i64 y.many, .string ⟨nm.toArray⟩, .string ⟨y.s.toArray⟩, .bool y.neg, .int .i64 y.e] 35)).heap.size = w2.heap.size + 1 := by simp
        clear x0 x1 x2 x3 x4 x5 n0 cB
        go_wp2_with ((with_reducible refine wpList_store_node rfl _ _ rfl g' (q * 6) (nmN nm y) ?sx ?sy HTH1.out ?sz))
        case sx => simp [Act.eval]
        case sy => simp [Act.eval, nmN]
        all_goals
          go_roundw
          case rel => exact ⟨j + 1, by omega, by go_num, by rw [HS.out]; exact HPU1.out, Below.setCells HG.out.1 _ _ HBA.out⟩
          case measure => simp [intOf]; omega
    · have HE : Hid ((names.zip L).take j = names.zip L) := Lib.hid (List.take_of_length_le (by rw [List.length_zip, HLL.out, ← HUL.out]; omega))
      clear hown hbw
      go_wp2_with fail
      go_ret
      exact ⟨_, rfl, by have := HO.out; rwa [HE.out] at this, HBW.out⟩
end Go.Proofs.YtafbojiojeemoaaGreatDoor
