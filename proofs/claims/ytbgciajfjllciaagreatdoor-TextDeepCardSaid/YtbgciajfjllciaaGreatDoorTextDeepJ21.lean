/-
  Joined: RefW7, RefW8, TxV, TextDeepCard.
-/
import Derived.Test.YtbgciajfjllciaaGreatDoorTextDeepJ8
import Derived.Test.YtbgciajfjllciaaGreatDoorTextDeepJ1
import Derived.Test.YtbgciajfjllciaaGreatDoorRefW6
import Derived.Test.YtbgciajfjllciaaGreatDoorTextDeepJ18
import Derived.Test.YtbgciajfjllciaaGreatDoorTextDeepJ20

/-
  What the document's own answers are: own, Parts, Names, Depth.
-/
namespace Go.Proofs.YtbgciajfjllciaaGreatDoor
open Go.RowKit Np Rw Vp

set_option maxRecDepth 100000 in
set_option maxHeartbeats 4000000 in
theorem refOwn_any (v : Value) (l : List Nd) (a b : Nat) (n : Nd) (rest : List Nd) (w : World) (hv : Nds w v l) (hl : l.length ≤ 65536) (hab : a < b) (hbl : b ≤ l.length) (hs : (l.drop a).take (b - a) = n :: rest) :
    Calls Tryz.prog 60 #[v, .int .i64 a, .int .i64 b] w (OwnsN w (noName n :: rest)) := by
  obtain ⟨g, o, c, rfl, hc, hcm, hg, -⟩ := hv.opened (by omega)
  have HPC : Hid (Nds w (.slice (some ⟨g, o + a * 6, none⟩) (b - a) (c - a)) (n :: rest)) := Lib.hid (by
    have := hv.piece a (b - a) (by omega)
    rwa [hs] at this)
  have HLN : Hid ((n :: rest).length = b - a) := Lib.hid (by rw [← hs]; simp; omega)
  clear hs hv
  generalize hn : l.length = N at *
  have hac : a ≤ c := by omega
  have hbc : b ≤ c := by omega
  have hane : ¬ a = c := by omega
  clear hn
  generalize hr : n :: rest = r at HPC HLN
  have HR := Lib.hid hr
  clear hr
  go_enter Tryz.func60, Tryz.ntmps60
  have HO0 : Hid (OwnN w.heap.size (w.alloc (.cells #[] 38)) (.slice (some ⟨w.heap.size, 0, none⟩) 0 0) []) := Lib.hid (by
    have := Own.lit (base := w.heap.size) (E := 38) ndc_len w #[] [] (Nat.le_refl _) (by simp) rfl
    simpa using this)
  go_wp2_with (at_builtin; refine wpList_append_row (base := w.heap.size) elNode rfl _ _ rfl rfl HO0.out rfl (HPC.out.below ((Below.refl _ _).alloc (Nat.le_refl _) _)) ?_ ?_ ?_ ?_)
  · have := HLN.out; unfold maxLen; simp only [List.length_nil]; omega
  · have := HLN.out; simp only [List.length_nil]; omega
  · simp
  · intro A3 c3 w3 hown3 hg3 hwh
    clear hwh
    have HO3 : Hid (OwnN w.heap.size w3 (.slice A3 r.length c3) r) := Lib.hid hown3
    have HB3 : Hid (Below w.heap.size w w3) := Lib.hid (((Below.refl w.heap.size w).alloc (Nat.le_refl _) (.cells #[] 38)).trans (HO0.out.kept hg3 (by simp)))
    clear hown3 hg3
    obtain ⟨g', rfl, hc3, HG⟩ : ∃ g', A3 = some ⟨g', 0, none⟩ ∧ b - a ≤ c3 ∧ Hid (w.heap.size ≤ g' ∧ g' < w3.heap.size) := by
      have h := HO3.out
      obtain ⟨g', cap, hv, h1, h2⟩ := h.opened (by have := HLN.out; omega)
      injection hv with e1 _ e3
      have := h.cap.2.1
      exact ⟨g', e1, by have := HLN.out; omega, Lib.hid ⟨h1, h2⟩⟩
    have hk0 : r[0]? = some n := by rw [← HR.out]; rfl
    have x0 := Own.cell ndc_len (j := 0) HO3.out hk0 rfl
    have x1 := Own.cell ndc_len (j := 1) HO3.out hk0 rfl
    have x2 := Own.cell ndc_len (j := 2) HO3.out hk0 rfl
    have x3 := Own.cell ndc_len (j := 3) HO3.out hk0 rfl
    have x4 := Own.cell ndc_len (j := 4) HO3.out hk0 rfl
    have x5 := Own.cell ndc_len (j := 5) HO3.out hk0 rfl
    simp only [Nat.zero_mul, Nat.zero_add] at x0 x1 x2 x3 x4 x5
    have HK0 := Lib.hid hk0
    clear hk0
    rw [HLN.out] at HO3 ⊢
    have hba : 0 < b - a := by omega
    have HTH : Hid (∀ ob : Obj, (w3.alloc ob).there g' 0 6) := Lib.hid (fun ob => by
      have h : OwnN w.heap.size (w3.alloc ob) (.slice (some ⟨g', 0, none⟩) r.length c3) r := by rw [HLN.out]; exact HO3.out.alloc ob
      have := Own.there ndc_len h HK0.out
      simpa using this)
    have HPU : Hid (∀ ob : Obj, OwnN w.heap.size ((w3.alloc ob).setCells g' 0 (ndc (noName n))) (.slice (some ⟨g', 0, none⟩) (b - a) c3) (noName n :: rest)) := Lib.hid (fun ob => by
      have h : OwnN w.heap.size (w3.alloc ob) (.slice (some ⟨g', 0, none⟩) r.length c3) r := by rw [HLN.out]; exact HO3.out.alloc ob
      have h2 := Own.puts (y := noName n) ndc_len h HK0.out
      rw [HLN.out] at h2
      rw [← HR.out] at h2
      simpa using h2)
    go_wp2_with (refine wpList_store_node rfl _ _ rfl g' 0 (noName n) rfl rfl (HTH.out _) ?_)
    go_ret
    exact ⟨_, rfl, HPU.out _, Below.setCells HG.out.1 _ _ (HB3.out.alloc HB3.out.size _)⟩

theorem Elems.aside {base : Nat} {W W' : World} {v : Value} {xs zs : List (Option Addr × Nat × Nat)} {L : List (List Nd)} (h : Elems base W zs L) (hv : Own slc 1 24 base W v xs) (hg : W.grownBy W' v.ownBlock) : Elems base W' zs L :=
  ⟨h.1, fun k z l hz hl => Own.aside (h.2 k z l hz hl) hv (by decide) hg⟩

/-- What is handed back is one's own, so that more can be appended to it. -/
def OwnsV (w : World) (L : List (List Nd)) (e : Ending) (w' : World) : Prop := ∃ v' zs, e = .returned v' ∧ Own slc 1 24 w.heap.size w' v' zs ∧ Elems w.heap.size w' zs L ∧ Below w.heap.size w w'
def OwnsS (w : World) (L : List (List UInt8)) (e : Ending) (w' : World) : Prop := ∃ v', e = .returned v' ∧ Own stc 1 9 w.heap.size w' v' L ∧ Below w.heap.size w w'

set_option maxRecDepth 100000 in
set_option maxHeartbeats 4000000 in
theorem refParts_own (v : Value) (t : Tr Nd) (w : World) (hv : Nds w v (flat t)) (hl : (flat t).length ≤ 65536) (ht : Val t) :
    Calls Tryz.prog 36 #[v] w (OwnsV w (t.ks.map fun k => flat (nmd [] k))) := by
  have hvo := hv
  obtain ⟨g, o, c, rfl, hc, hcm, hg, hx⟩ := hvo.opened (flat_pos t)
  have hmany : t.nd.many = t.ks.length := (okT_eq.1 ht.ok).1
  have a1 : w.cell? ⟨g, o + 1, none⟩ = some (.int .i64 (t.ks.length : Nat)) := by
    have := (hx 0 t.nd (by rw [flat_eq]; rfl)).nd.c1
    rw [hmany] at this
    simpa using this
  have HA1 := Lib.hid a1
  have HV := Lib.hid hv
  have HKS := Lib.hid (okT_eq.1 ht.ok).2
  have hkl : t.ks.length ≤ 65536 := by
    have h1 := flats_len t.ks
    rw [flat_eq] at hl
    simp at hl
    omega
  have hpos := flat_pos t
  have HDR : Hid (∀ pre post, t.ks = pre ++ post → (flat t).drop (1 + (flats pre).length) = flats post) := Lib.hid (fun pre post h => by
    rw [flat_eq, h, flats_append, Nat.add_comm, List.drop_succ_cons, List.drop_left])
  clear hx hv hvo hmany a1
  have HLL := Lib.hid hl
  generalize hn : (flat t).length = n at *
  have HN := Lib.hid hn
  clear hn
  generalize hq : t.ks.length = q at *
  have HQ := Lib.hid hq
  clear hq
  go_enter Tryz.func36, Tryz.ntmps36
  have HO0 : Hid (Own slc 1 24 w.heap.size (w.alloc (.cells #[] 24)) (.slice (some ⟨w.heap.size, 0, none⟩) 0 0) []) := Lib.hid (by
    have := Own.lit (base := w.heap.size) (E := 24) slc_len w #[] [] (Nat.le_refl _) (by simp) rfl
    simpa using this)
  go_wp2_with fail
  go_loopw [3, 4, 5] (fun ov iv kv wr => ∃ (pre post : List (Tr Nd)) (zs : List (Option Addr × Nat × Nat)), t.ks = pre ++ post ∧ kv = .int .i64 pre.length ∧ iv = .int .i64 (1 + (flats pre).length : Nat) ∧ Own slc 1 24 w.heap.size wr ov zs ∧ Elems w.heap.size wr zs (pre.map fun k => flat (nmd [] k)) ∧ Below w.heap.size w wr) (fun _ _ kv _ => q - (intOf kv).toNat)
  case atStart => exact ⟨[], t.ks, [], rfl, rfl, rfl, HO0.out, ⟨rfl, fun k z l h => by simp at h⟩, (Below.refl _ _).alloc (Nat.le_refl _) _⟩
  case round =>
    obtain ⟨pre, post, zs, hpp, rfl, rfl, hown, hels, hb⟩ := hrel
    have a2 := (hb.cell (p := ⟨g, o + 1, none⟩) hg).trans HA1.out
    have HO := Lib.hid hown
    have HE := Lib.hid hels
    have HB := Lib.hid hb
    have HP := Lib.hid hpp
    have hlen : pre.length + post.length = q := by rw [← HQ.out, hpp]; simp
    clear hown hels hb hpp
    cases post with
    | nil =>
      simp only [List.length_nil, Nat.add_zero] at hlen
      have HF : Hid (pre = t.ks) := Lib.hid (by rw [HP.out]; simp)
      have hlt : ¬ (pre.length : Int) < q := by omega
      have HLN := Lib.hid hlen
      clear hlen
      go_wp2_with fail
      go_ret
      exact ⟨_, _, rfl, HO.out, by have := HE.out; rwa [HF.out] at this, HB.out⟩
    | cons u rest =>
      simp only [List.length_cons] at hlen
      have hdr := HDR.out pre (u :: rest) HP.out
      rw [flats_cons] at hdr
      have hoku : okT many u := by have := HKS.out; rw [HP.out, okTs_append, okTs_cons] at this; exact this.2.1
      have hnx := nxt_at hdr hoku
      have hpl := part_lt hdr
      have hup := flat_pos u
      have hlt : (pre.length : Int) < q := by omega
      rw [HN.out] at hpl
      generalize hi : 1 + (flats pre).length = i at *
      generalize hm : (flat u).length = m at *
      have HNX := Lib.hid hnx
      have HDRU : Hid (((flat t).drop i).take (i + m - i) = u.nd :: flats u.ks) := Lib.hid (by
        rw [hdr, show i + m - i = m by omega, ← hm, List.take_left, ← flat_eq])
      have HIX : Hid (1 + (flats (pre ++ [u])).length = i + m) := Lib.hid (by rw [flats_append, flats_cons]; simp; omega)
      have HPL := Lib.hid hlen
      have HUM := Lib.hid hm
      clear hdr hoku hnx hi hm hlen
      have hib : i ≤ n := by omega
      have hOW := refOwn_any (.slice (some ⟨g, o, none⟩) n c) (flat t) i (i + m) u.nd (flats u.ks) wr (HV.out.below HB.out) (by rw [HN.out]; exact hl) (by omega) (by rw [HN.out]; exact hpl) HDRU.out
      rw [Int.natCast_add] at hOW
      have HOW := Lib.hid hOW
      clear hOW
      go_wp2_with (go_at_call 33; refine (refNext_any _ (flat t) i _ (HV.out.below HB.out) (by rw [HN.out]; exact hl) (by rw [HN.out]; exact hib)).mono ?_; rintro e w' ⟨rfl, rfl⟩; rw [HNX.out])
      refine HOW.out.mono ?_
      rintro e w1 ⟨v1, rfl, ho1, hb1⟩
      obtain ⟨A1, c1, rfl, -⟩ := ho1.form
      have HZ : Hid (OwnN w.heap.size w1 (.slice A1 (noName u.nd :: flats u.ks).length c1) (flat (nmd [] u))) := Lib.hid (by rw [nmd, flat_mk]; exact ho1.mono HB.out.size)
      have HO1 := Lib.hid (HO.out.below hb1)
      have HE1 := Lib.hid (HE.out.below hb1)
      have HB1 := Lib.hid (Below.after HB.out hb1)
      clear ho1 hb1 a2
      generalize (noName u.nd :: flats u.ks).length = m2 at HZ ⊢
      have HZL : Hid (zs.length + 1 ≤ 65537) := Lib.hid (by have := HE1.out.1; rw [List.length_map] at this; omega)
      go_wp2_with (at_builtin; refine wpList_append_row (base := w.heap.size) elVal rfl _ _ rfl rfl (HO1.out.alloc _) rfl (row_one slc_len w1 _ rfl 24 #[.slice A1 m2 c1] (A1, m2, c1) rfl) ?_ ?_ ?_ ?_)
      · have := HZL.out; unfold maxLen; simp only [List.length_singleton]; omega
      · have := HZL.out; simp only [List.length_singleton]; omega
      · have := HB1.out.size; simp; omega
      · intro A' c' w2 hown2 hg2 hwh
        clear hwh
        have HO2 : Hid (Own slc 1 24 w.heap.size w2 (.slice A' (zs.length + 1) c') (zs ++ [(A1, m2, c1)])) := Lib.hid hown2
        have HE2 : Hid (Elems w.heap.size w2 (zs ++ [(A1, m2, c1)]) ((pre ++ [u]).map fun k => flat (nmd [] k))) := Lib.hid (by
          have h1 : Elems w.heap.size w2 zs (pre.map fun k => flat (nmd [] k)) := (HE1.out.below ((Below.refl _ _).alloc (Nat.le_refl _) _)).aside (HO1.out.alloc _) hg2
          have h2 : OwnN w.heap.size w2 (.slice A1 m2 c1) (flat (nmd [] u)) := Own.aside (HZ.out.alloc _) (HO1.out.alloc _) (by decide) hg2
          rw [List.map_append]
          exact h1.snoc h2)
        have HB2 : Hid (Below w.heap.size w w2) := Lib.hid ((HB1.out.alloc HB1.out.size _).trans ((HO1.out.alloc _).kept hg2 (by have := HB1.out.size; simp; omega)))
        clear hown2 hg2
        generalize zs.length + 1 = zl at HO2 ⊢
        go_wp2_with fail
        go_roundw
        case rel => exact ⟨pre ++ [u], rest, zs ++ [(A1, m2, c1)], by rw [HP.out]; simp, by simp, by rw [HIX.out]; go_num, HO2.out, HE2.out, HB2.out⟩
        case measure => simp [intOf]; omega

theorem refParts_any (v : Value) (t : Tr Nd) (w : World) (hv : Nds w v (flat t)) (hl : (flat t).length ≤ 65536) (ht : Val t) :
    Calls Tryz.prog 36 #[v] w (GivesV w (t.ks.map fun k => flat (nmd [] k))) :=
  (refParts_own v t w hv hl ht).mono fun _ _ ⟨v', _, h1, h2, h3, h4⟩ => ⟨v', h1, h3.vls (h2.row slc_len), h4⟩

set_option maxRecDepth 100000 in
set_option maxHeartbeats 4000000 in
theorem refNames_own (v : Value) (t : Tr Nd) (w : World) (hv : Nds w v (flat t)) (hl : (flat t).length ≤ 65536) (ht : Val t) :
    Calls Tryz.prog 56 #[v] w (OwnsS w (namesT t)) := by
  have hvo := hv
  obtain ⟨g, o, c, rfl, hc, hcm, hg, hx⟩ := hvo.opened (flat_pos t)
  have hmany : t.nd.many = t.ks.length := (okT_eq.1 ht.ok).1
  have a1 : w.cell? ⟨g, o + 1, none⟩ = some (.int .i64 (t.ks.length : Nat)) := by
    have := (hx 0 t.nd (by rw [flat_eq]; rfl)).nd.c1
    rw [hmany] at this
    simpa using this
  have a0 : w.cell? ⟨g, o, none⟩ = some (.int .i64 t.nd.kind) := by
    have := (hx 0 t.nd (by rw [flat_eq]; rfl)).nd.c0
    simpa using this
  have HA1 := Lib.hid a1
  have HV := Lib.hid hv
  have HXX := Lib.hid hx
  have HKS := Lib.hid (okT_eq.1 ht.ok).2
  have hkl : t.ks.length ≤ 65536 := by
    have h1 := flats_len t.ks
    rw [flat_eq] at hl
    simp at hl
    omega
  have hpos := flat_pos t
  have HDR : Hid (∀ pre post, t.ks = pre ++ post → (flat t).drop (1 + (flats pre).length) = flats post) := Lib.hid (fun pre post h => by
    rw [flat_eq, h, flats_append, Nat.add_comm, List.drop_succ_cons, List.drop_left])
  clear hx hv hvo hmany a1
  generalize hn : (flat t).length = n at *
  have HN := Lib.hid hn
  clear hn
  generalize hq : t.ks.length = q at *
  have HQ := Lib.hid hq
  clear hq
  have HO0 : Hid (Own stc 1 9 w.heap.size (w.alloc (.cells #[] 9)) (.slice (some ⟨w.heap.size, 0, none⟩) 0 0) []) := Lib.hid (by
    have := Own.lit (base := w.heap.size) (E := 9) stc_len w #[] [] (Nat.le_refl _) (by simp) rfl
    simpa using this)
  by_cases hk : t.nd.kind = 6
  · have HNT : Hid (namesT t = t.ks.map fun k => k.nd.name) := Lib.hid (by rw [namesT, if_pos hk])
    rw [hk] at a0
    have HA0 := Lib.hid a0
    clear a0 hk
    go_enter Tryz.func56, Tryz.ntmps56
    go_wp2_with fail
    go_loopw [3, 4, 5] (fun ov iv kv wr => ∃ (pre post : List (Tr Nd)), t.ks = pre ++ post ∧ kv = .int .i64 pre.length ∧ iv = .int .i64 (1 + (flats pre).length : Nat) ∧ Own stc 1 9 w.heap.size wr ov (pre.map fun k => k.nd.name) ∧ Below w.heap.size w wr) (fun _ _ kv _ => q - (intOf kv).toNat)
    case atStart => exact ⟨[], t.ks, rfl, rfl, rfl, HO0.out, (Below.refl _ _).alloc (Nat.le_refl _) _⟩
    case round =>
      obtain ⟨pre, post, hpp, rfl, rfl, hown, hb⟩ := hrel
      have a2 := (hb.cell (p := ⟨g, o + 1, none⟩) hg).trans HA1.out
      have a3 := (hb.cell (p := ⟨g, o, none⟩) hg).trans HA0.out
      have HO := Lib.hid hown
      have HB := Lib.hid hb
      have HP := Lib.hid hpp
      have hlen : pre.length + post.length = q := by rw [← HQ.out, hpp]; simp
      clear hown hpp
      cases post with
      | nil =>
        simp only [List.length_nil, Nat.add_zero] at hlen
        have HF : Hid (pre = t.ks) := Lib.hid (by rw [HP.out]; simp)
        have hlt : ¬ (pre.length : Int) < q := by omega
        clear hlen hb
        go_wp2_with fail
        go_ret
        exact ⟨_, rfl, by rw [HNT.out, ← HF.out]; exact HO.out, HB.out⟩
      | cons u rest =>
        simp only [List.length_cons] at hlen
        have hdr := HDR.out pre (u :: rest) HP.out
        rw [flats_cons] at hdr
        have hoku : okT many u := by have := HKS.out; rw [HP.out, okTs_append, okTs_cons] at this; exact this.2.1
        have hnx := nxt_at hdr hoku
        have hpl := part_lt hdr
        have hup := flat_pos u
        have hlt : (pre.length : Int) < q := by omega
        have hhd := head_at hdr
        rw [HN.out] at hpl
        generalize hi : 1 + (flats pre).length = i at *
        have b2 := (hb.cell (p := ⟨g, o + i * 6 + 2, none⟩) hg).trans (HXX.out i _ hhd).nd.c2
        generalize hm : (flat u).length = m at *
        have HNX := Lib.hid hnx
        have HIX : Hid (1 + (flats (pre ++ [u])).length = i + m) := Lib.hid (by rw [flats_append, flats_cons]; simp; omega)
        have HPL : Hid (pre.length + 1 ≤ 65537) := Lib.hid (by omega)
        have hii : (i : Int) < n := by omega
        have hiin : i < n := by omega
        generalize hnm : u.nd.name = nm at b2
        have HNM := Lib.hid hnm
        have hprel : (pre.map fun k => k.nd.name).length = pre.length := by simp
        generalize hpn : (pre.map fun k => k.nd.name) = pn at HO hprel
        have HPN := Lib.hid hpn
        have HPNL := Lib.hid hprel
        have hlq := hlen
        clear hdr hoku hnx hi hm hlen hhd hnm hpn hprel hb
        have HLQ := Lib.hid hlq
        clear hlq
        go_wp2_with (at_builtin; refine wpList_append_row (base := w.heap.size) elText rfl _ _ rfl rfl (HO.out.alloc _) rfl (row_one stc_len wr _ rfl 9 #[.string ⟨nm.toArray⟩] nm rfl) ?_ ?_ ?_ ?_)
        · have := HPL.out; have := HPNL.out; unfold maxLen; simp only [List.length_singleton]; omega
        · have := HPL.out; have := HPNL.out; simp only [List.length_singleton]; omega
        · have := HB.out.size; simp; omega
        · intro A' c' w2 hown2 hg2 hwh
          clear hwh
          have HO2 : Hid (Own stc 1 9 w.heap.size w2 (.slice A' (pn.length + 1) c') (pn ++ [nm])) := Lib.hid hown2
          have HB2 : Hid (Below w.heap.size w w2) := Lib.hid ((HB.out.alloc HB.out.size _).trans ((HO.out.alloc _).kept hg2 (by have := HB.out.size; simp; omega)))
          clear hown2 hg2
          generalize pn.length + 1 = zl at HO2 ⊢
          have hib : i ≤ n := by omega
          clear a2 a3 b2
          go_wp2_with (go_at_call 33; refine (refNext_any _ (flat t) i _ (HV.out.below HB2.out) (by rw [HN.out]; exact hl) (by rw [HN.out]; exact hib)).mono ?_; rintro e w' ⟨rfl, rfl⟩; rw [HNX.out])
          go_roundw
          case rel => exact ⟨pre ++ [u], rest, by rw [HP.out]; simp, by simp, by rw [HIX.out]; go_num, by rw [List.map_append, HPN.out]; have := HO2.out; rw [← HNM.out] at this; exact this, HB2.out⟩
          case measure => have := HLQ.out; simp [intOf]; omega
  · have HNT : Hid (namesT t = []) := Lib.hid (by rw [namesT, if_neg hk])
    have e6 : (t.nd.kind == 6) = false := by simp [hk]
    have a1 := HA1.out
    clear hk
    go_enter Tryz.func56, Tryz.ntmps56
    go_wp2_with fail
    go_loopw [3, 4, 5] (fun ov iv kv wr => kv = .int .i64 0 ∧ ov = .slice (some ⟨w.heap.size, 0, none⟩) 0 0 ∧ wr = w.alloc (.cells #[] 9)) (fun _ _ _ _ => 0)
    case atStart => exact ⟨rfl, rfl, rfl⟩
    case round =>
      obtain ⟨rfl, rfl, rfl⟩ := hrel
      by_cases hq0 : 0 < q
      · have hq1 : (0 : Int) < q := by omega
        go_wp2_with fail
        go_ret
        exact ⟨_, rfl, by rw [HNT.out]; exact HO0.out, (Below.refl _ _).alloc (Nat.le_refl _) _⟩
      · have hq1 : ¬ (0 : Int) < q := by omega
        go_wp2_with fail
        go_ret
        exact ⟨_, rfl, by rw [HNT.out]; exact HO0.out, (Below.refl _ _).alloc (Nat.le_refl _) _⟩
theorem refNames_any (v : Value) (t : Tr Nd) (w : World) (hv : Nds w v (flat t)) (hl : (flat t).length ≤ 65536) (ht : Val t) :
    Calls Tryz.prog 56 #[v] w (GivesS w (namesT t)) :=
  (refNames_own v t w hv hl ht).mono fun _ _ ⟨v', h1, h2, h4⟩ => ⟨v', h1, h2.row stc_len, h4⟩
end Go.Proofs.YtbgciajfjllciaaGreatDoor

/-
  What the document's own answer Depth is.
-/
namespace Go.Proofs.YtbgciajfjllciaaGreatDoor
open Go.RowKit Np Rw Vp

theorem depths_snoc : ∀ (ts : List (Tr Nd)) (u : Tr Nd), depths (ts ++ [u]) = max (depths ts) (depth u)
  | [], u => by simp
  | t :: ts, u => by rw [List.cons_append, depths_cons, depths_snoc ts u, depths_cons]; omega

mutual
theorem depth_le : ∀ t : Tr Nd, depth t ≤ (flat t).length
  | .mk n ks => by
    have := depths_le2 ks
    rw [depth_mk, flat_mk, List.length_cons]
    split <;> omega
theorem depths_le2 : ∀ ts : List (Tr Nd), depths ts ≤ (flats ts).length
  | [] => by simp
  | t :: ts => by
    have h1 := depth_le t
    have h2 := depths_le2 ts
    rw [depths_cons, flats_cons, List.length_append]
    omega
end

set_option maxRecDepth 100000 in
set_option maxHeartbeats 4000000 in
theorem refDepth_upto : ∀ (N : Nat) (t : Tr Nd), (flat t).length ≤ N → ∀ (v : Value) (w : World), Nds w v (flat t) → (flat t).length ≤ 65536 → Val t →
    Calls Tryz.prog 20 #[v] w fun e w' => e = .returned (.int .i64 (depth t : Nat)) ∧ Below w.heap.size w w'
  | 0, t, h, _, _, _, _, _ => absurd h (by have := flat_pos t; omega)
  | N + 1, t, hN, v, w, hv, hl, ht => by
    have IH := Lib.hid (refDepth_upto N)
    have hvo := hv
    obtain ⟨g, o, c, rfl, hc, hcm, hg, hx⟩ := hvo.opened (flat_pos t)
    have a0 : w.cell? ⟨g, o, none⟩ = some (.int .i64 t.nd.kind) := by
      have := (hx 0 t.nd (by rw [flat_eq]; rfl)).nd.c0
      simpa using this
    have HPA := Lib.hid (refParts_any _ t w hv hl ht)
    have HT := Lib.hid ht
    have hpos := flat_pos t
    have hfl : (flat t).length = 1 + (flats t.ks).length := by rw [flat_eq]; simp; omega
    have HFL := Lib.hid hfl
    have HNN := Lib.hid hN
    have HL := Lib.hid hl
    clear hx hv hvo hfl hN
    generalize hn : (flat t).length = n at *
    clear hn
    by_cases hcn : t.nd.kind = 5 ∨ t.nd.kind = 6
    · have HD : Hid (depth t = depths t.ks + 1) := Lib.hid (by rw [depth_eq, if_pos (by rcases hcn with h | h <;> rw [h] <;> rfl)])
      have e56 : (t.nd.kind != 5) = false ∨ (t.nd.kind != 5) = true ∧ (t.nd.kind != 6) = false := by
        rcases hcn with h | h
        · exact .inl (by simp [h])
        · exact .inr ⟨by simp [h], by simp [h]⟩
      clear hcn
      rcases e56 with e5 | ⟨e5, e6⟩
      all_goals
        go_enter Tryz.func20, Tryz.ntmps20
        go_wp2_with fail
        refine HPA.out.mono ?_
        rintro e w1 h1
        obtain ⟨A1, c1, rfl, hp1, hb1⟩ := h1.is (n := t.ks.length) (by simp)
        obtain ⟨us, hul, ⟨A1', c1', hv1, -, -, -, hx1⟩, hue⟩ := hp1
        injection hv1 with e1 e2 e3
        subst e1 e3
        rw [← e2] at hx1
        have HX1 := Lib.hid hx1
        have HUE := Lib.hid hue
        have HUL : Hid (us.length = t.ks.length) := Lib.hid e2.symm
        have HB1 := Lib.hid hb1
        clear hul hx1 hue e2 h1 hb1
        have hq60 : t.ks.length ≤ 65536 := by
          have h1 := flats_len t.ks
          have h2 := HFL.out
          have := HL.out
          omega
        generalize hq : t.ks.length = q at *
        have HQ := Lib.hid hq; clear hq
        go_wp2_with fail
        go_loopw [4, 5] (fun nv iv wr => ∃ k d : Nat, k ≤ q ∧ iv = .int .i64 k ∧ nv = .int .i64 (d : Nat) ∧ d = depths (t.ks.take k) ∧ Below w1.heap.size w1 wr) (fun _ iv _ => q - (intOf iv).toNat)
        case atStart => exact ⟨0, 0, Nat.zero_le _, rfl, rfl, by simp, Below.refl _ _⟩
        case round =>
          obtain ⟨k, d, hk, rfl, rfl, hd, hb⟩ := hrel
          have HDD := Lib.hid hd
          have HB := Lib.hid hb
          clear hd
          by_cases hlt : k < q
          · obtain ⟨g8, o8, rfl, hg8, hx8⟩ := HX1.out (by omega)
            obtain ⟨x, hxk⟩ : ∃ a, us[k]? = some a := ⟨_, List.getElem?_eq_getElem (by rw [HUL.out]; exact hlt)⟩
            obtain ⟨kk, hkk⟩ : ∃ a, t.ks[k]? = some a := ⟨_, List.getElem?_eq_getElem (by rw [HQ.out]; exact hlt)⟩
            have b0 := (hb.cell (p := ⟨g8, o8 + k, none⟩) hg8).trans (hx8 k x hxk).one
            have HRX : Hid (Nds wr x (flat (nmd [] kk))) := Lib.hid ((HUE.out k x _ hxk (by rw [List.getElem?_map, hkk]; rfl)).below hb)
            have hmem := List.mem_of_getElem? hkk
            have HMEM := Lib.hid hmem
            have HKL : Hid ((flat (nmd [] kk)).length ≤ N ∧ (flat (nmd [] kk)).length ≤ 65536) := Lib.hid (by
              rw [flat_nmd_len]
              have h1 := len_flats hmem
              have h2 := HFL.out
              have h3 := HNN.out
              have h4 := HL.out
              omega)
            have HDS : Hid (depths (t.ks.take (k + 1)) = max d (depth kk)) := Lib.hid (by rw [List.take_add_one, hkk, HDD.out]; exact depths_snoc _ _)
            have HC := Lib.hid (IH.out (nmd [] kk) HKL.out.1 x wr HRX.out HKL.out.2 (part_val HT.out HMEM.out))
            rw [depth_nmd] at HC
            generalize depth kk = dk at HC HDS
            clear hmem hkk hxk hx8 hb
            go_wp2_with fail
            refine HC.out.mono ?_
            rintro e w2 ⟨rfl, hb2⟩
            have HB2 := Lib.hid (Below.after HB.out hb2)
            clear hb2 b0
            go_wp2_with fail
            go_roundw
            case rel => exact ⟨k + 1, max d dk, by omega, by go_num, by congr 1; omega, HDS.out.symm, HB2.out⟩
            case measure => simp [intOf]; omega
          · have HE : Hid (depth t = d + 1) := Lib.hid (by rw [HD.out, HDD.out, List.take_of_length_le (by rw [HQ.out]; omega)])
            have hdb : d ≤ 65536 := by
              have h1 := depths_le2 t.ks
              have h2 := HDD.out
              rw [List.take_of_length_le (by rw [HQ.out]; omega)] at h2
              have h3 := HFL.out
              have h4 := HL.out
              omega
            go_wp2_with fail
            go_ret
            exact ⟨ret_i64 (by rw [HE.out]; go_num), Below.after HB1.out HB.out⟩
    · have HD : Hid (depth t = 0) := Lib.hid (depth_leaf (fun h => hcn (.inl h)) (fun h => hcn (.inr h)))
      have e5 : (t.nd.kind != 5) = true := by simp; exact fun h => hcn (.inl h)
      have e6 : (t.nd.kind != 6) = true := by simp; exact fun h => hcn (.inr h)
      clear hcn
      go_enter Tryz.func20, Tryz.ntmps20
      go_wp2_with fail
      go_ret
      exact ⟨ret_i64 (by rw [HD.out]; rfl), Below.refl _ _⟩
end Go.Proofs.YtbgciajfjllciaaGreatDoor

/-
  The walk of TextDeep: it answers true.
-/
namespace Go.Proofs.YtbgciajfjllciaaGreatDoor
open Go.RowKit Np Rw Vp Up Qp Tp

theorem nest_len (t : Tr Nd) : ∀ k, (flat (nest k t)).length = k + (flat t).length
  | 0 => by simp [nest]
  | k + 1 => by rw [nest, flat_mk, List.length_cons, flats_cons, flats_nil, List.append_nil, nest_len t k]; omega
theorem nest_short {t : Tr Nd} (h : ∀ x ∈ flat t, x.name.length ≤ 200 ∧ x.s.length ≤ 200) : ∀ k, Short (flat (nest k t))
  | 0 => fun x hx => ⟨by have := (h x hx).1; unfold maxLen; omega, by have := (h x hx).2; unfold maxLen; omega⟩
  | k + 1 => fun x hx => by
    rw [nest, flat_mk, flats_cons, flats_nil, List.append_nil] at hx
    rcases List.mem_cons.1 hx with rfl | hx
    · exact ⟨by simp [hdN], by simp [hdN]⟩
    · exact nest_short h k x hx
theorem wrap_bytes (a : List UInt8) : (ByteArray.mk #[91] ++ ByteArray.mk a.toArray) ++ ByteArray.mk #[93] = ByteArray.mk (91 :: (a ++ [93])).toArray := by
  apply ByteArray.ext
  apply Array.toList_inj.1
  simp

/-- What is asked of what stands within. -/
structure Inn (X : List UInt8) (more : Nat) (t : Tr Nd) : Prop where
  val : Val t
  txt : ∀ d, prT false d t = X
  dep : depth t = more
  few : (flat t).length ≤ 100
  sh : ∀ x ∈ flat t, x.name.length ≤ 200 ∧ x.s.length ≤ 200
  len : X.length ≤ 100
  bad : ∀ k, 128 < k + more → prsR (wrapS k X) = ([], if k = 127 ∧ more = 2 then k + 5 else 128, 3)

theorem inn_I : Inn inI 0 trI := ⟨val_I, prt_I, dep_I, by decide +kernel, by decide +kernel, by decide, fun k h => by rw [deep_I k (by omega), if_neg (by omega)]⟩
theorem inn_N : Inn inN 0 trN := ⟨val_N, prt_N, dep_N, by decide +kernel, by decide +kernel, by decide, fun k h => by rw [deep_N k (by omega), if_neg (by omega)]⟩
theorem inn_O : Inn inO 1 trO := ⟨val_O, prt_O, dep_O, by decide +kernel, by decide +kernel, by decide, fun k h => by rw [deep_O k (by omega), if_neg (by omega)]⟩
theorem inn_A : Inn inA 2 trA := ⟨val_A, prt_A, dep_A, by decide +kernel, by decide +kernel, by decide, fun k h => by
  by_cases h7 : k = 127
  · subst h7; rw [deep_B, if_pos ⟨rfl, rfl⟩]
  · rw [deep_A k (by omega), if_neg (fun h => h7 h.1)]⟩

/-- What Parse answers of so many lists around it. -/
theorem deep_parse {X : List UInt8} {more : Nat} {t : Tr Nd} (hI : Inn X more t) (k : Nat) (hk : k < 200) (w : World) (hT : Tv w) :
    Calls Tryz.prog 11 #[.string ⟨(wrapS k X).toArray⟩] w fun e w' => ∃ (A : Option Addr) (m c : Nat), Hid (Below w.heap.size w w') ∧
      (k + more ≤ 128 ∧ e = .returned (.tuple #[.slice A m c, .int .i64 0, .int .i64 0]) ∧ Hid (Nds w' (.slice A m c) (flat (nest k t))) ∨
       128 < k + more ∧ e = .returned (.tuple #[.slice A 0 c, .int .i64 (((if k = 127 ∧ more = 2 then k + 5 else 128 : Nat)) : Int), .int .i64 3])) := by
  refine (parse_any ⟨(wrapS k X).toArray⟩ w (by rw [mk_size, wrapS_len]; have := hI.len; omega) hT.er hT.tabs hT.wds).mono ?_
  rintro e w' ⟨V, he, hV, hb⟩
  change e = .returned (.tuple #[V, .int .i64 ((prsR (wrapS k X)).2.1 : Nat), .int .i64 (prsR (wrapS k X)).2.2]) at he
  change OwnN w.heap.size w' V (prsR (wrapS k X)).1 at hV
  by_cases hg : k + more ≤ 128
  · have hp := nest_parse hI.val k (by rw [hI.dep]; exact hg)
    rw [hI.txt] at hp
    rw [hp] at he hV
    have hr := hV.row ndc_len
    obtain ⟨A, c, rfl, h⟩ := hr
    exact ⟨A, _, c, Lib.hid hb, .inl ⟨hg, he, Lib.hid ⟨A, c, rfl, h⟩⟩⟩
  · rw [hI.bad k (by omega)] at he hV
    obtain ⟨A, c, rfl, -⟩ := hV.form
    exact ⟨A, 0, c, Lib.hid hb, .inr ⟨by omega, he⟩⟩
theorem deep_right {X : List UInt8} {more : Nat} {t : Tr Nd} (hI : Inn X more t) (k : Nat) (hk : k < 200) (v : Value) (w : World) (hv : Nds w v (flat (nest k t))) :
    (Calls Tryz.prog 19 #[v] w fun e w' => e = .returned (.bool true) ∧ Below w.heap.size w w') ∧
    (Calls Tryz.prog 20 #[v] w fun e w' => e = .returned (.int .i64 ((k : Int) + more)) ∧ Below w.heap.size w w') := by
  have hl : (flat (nest k t)).length ≤ 65536 := by rw [nest_len]; have := hI.few; omega
  have hval := nest_ok hI.val k
  constructor
  · have := refRightV_any v (flat (nest k t)) w hv hl (nest_short hI.sh k)
    rwa [rightL_val hval] at this
  · have := refDepth_upto _ (nest k t) (Nat.le_refl _) v w hv hl hval
    rw [depth_nest, hI.dep] at this
    exact this

set_option maxRecDepth 100000 in
set_option maxHeartbeats 16000000 in
theorem textDeep_any (n : Nat) (s : ByteArray) (w : World) (hn : n < 256) (hT : Tv w) :
    Calls Tryz.prog 7 #[.int .u8 n, .string s] w fun e w' => e = .returned (.bool true) ∧ Below w.heap.size w w' := by
  obtain ⟨k, hkn, hk2⟩ : ∃ k : Nat, (n : Int) % 200 = (k : Int) ∧ k < 200 := ⟨n % 200, by omega, Nat.mod_lt _ (by decide)⟩
  have HT := Lib.hid hT
  clear hT
  by_cases h1 : s.toList = inN
  · obtain rfl : s = ⟨inN.toArray⟩ := by apply ByteArray.ext; apply Array.toList_inj.1; rw [ByteArray.toList_eq] at h1; simpa using h1
    clear h1
    simp only [inN]
    go_enter Tryz.func7, Tryz.ntmps7
    go_wp2_with fail
    simp only [hkn]
    go_loopw [7, 8] (fun sv iv wr => ∃ j : Nat, j ≤ k ∧ iv = .int .i64 j ∧ sv = .string ⟨(wrapS j inN).toArray⟩ ∧ wr = w) (fun _ iv _ => k - (intOf iv).toNat)
    case atStart => exact ⟨0, Nat.zero_le _, rfl, rfl, rfl⟩
    case round =>
      obtain ⟨j, hj, rfl, rfl, rfl⟩ := hrel
      have hwl := wrapS_len inN j
      have hxl : (inN).length = 4 := rfl
      by_cases hlt : j < k
      · have hzs : (ByteArray.mk (wrapS j inN).toArray).size ≤ 600 := by rw [mk_size]; omega
        have HW : Hid (ByteArray.mk #[91] ++ ByteArray.mk (wrapS j inN).toArray ++ ByteArray.mk #[93] = ⟨(wrapS (j + 1) inN).toArray⟩) := Lib.hid (wrap_bytes _)
        clear hwl hxl
        generalize ByteArray.mk (wrapS j inN).toArray = a at *
        have hz1 : ¬ 9223372036854775807 < 1 + a.size := by omega
        have hz2 : ¬ 9223372036854775807 < 1 + a.size + 1 := by omega
        go_wp2_with fail
        go_roundw
        case rel => exact ⟨j + 1, by omega, by go_num, by rw [HW.out], trivial⟩
        case measure => simp [intOf]; omega
      · obtain rfl : j = k := by omega
        clear hwl hxl hlt
        have HP := Lib.hid (deep_parse inn_N j hk2 wr HT.out)
        generalize ByteArray.mk (wrapS j inN).toArray = a at *
        by_cases hg : j + 0 ≤ 128
        · have HQ : Hid (Calls Tryz.prog 11 #[.string a] wr fun e w' => ∃ (A : Option Addr) (m c : Nat), Hid (Below wr.heap.size wr w') ∧ e = .returned (.tuple #[.slice A m c, .int .i64 0, .int .i64 0]) ∧ Hid (Nds w' (.slice A m c) (flat (nest j trN)))) := Lib.hid (HP.out.mono (by
            rintro e w' ⟨A, m, c, h1, ⟨-, h2, h3⟩ | ⟨h2, -⟩⟩
            · exact ⟨A, m, c, h1, h2, h3⟩
            · exact absurd h2 (by omega)))
          have hgi : (j : Int) + 0 ≤ 128 := by omega
          have hgj : j ≤ 128 - 0 := by omega
          clear HP
          go_wp2_with (first
            | (go_at_call 11; refine HQ.out.mono ?_; rintro e w1 ⟨A, m, c, hb1, rfl, hv1⟩; have HT1 := Lib.hid (HT.out.below hb1.out))
            | (go_at_call 10; refine (alive_any _ HT1.out).mono ?_; rintro e w2 ⟨rfl, hb2⟩; have HB2 := Lib.hid hb2; have HV2 := Lib.hid (hv1.out.below hb2); clear hb2)
            | (go_at_call 19; refine ((deep_right inn_N j hk2 _ _ HV2.out).1).mono ?_; rintro e w3 ⟨rfl, hb3⟩; have HB3 := Lib.hid hb3; have HV3 := Lib.hid (HV2.out.below hb3); clear hb3)
            | (go_at_call 20; refine ((deep_right inn_N j hk2 _ _ HV3.out).2).mono ?_; rintro e w4 ⟨rfl, hb4⟩))
          go_ret
          exact ⟨ret_bool (by simp), Below.after (Below.after (Below.after hb1.out HB2.out) HB3.out) hb4⟩
        · have hgi : ¬ ((j : Int) + 0 ≤ 128) := by omega
          have hgj : ¬ (j + 0 ≤ 128) := hg
          have HQ : Hid (Calls Tryz.prog 11 #[.string a] wr fun e w' => ∃ (A : Option Addr) (c : Nat), Hid (Below wr.heap.size wr w') ∧ e = .returned (.tuple #[.slice A 0 c, .int .i64 128, .int .i64 3])) := Lib.hid (HP.out.mono (by
            rintro e w' ⟨A, m, c, h1, ⟨h2, -⟩ | ⟨-, h2⟩⟩
            · exact absurd h2 (by omega)
            · exact ⟨A, c, h1, by rw [h2]; simp⟩))
          clear HP
          go_wp2_with (first
            | (go_at_call 11; refine HQ.out.mono ?_; rintro e w1 ⟨A, c, hb1, rfl⟩; have HT1 := Lib.hid (HT.out.below hb1.out))
            | (go_at_call 10; refine (alive_any _ HT1.out).mono ?_; rintro e w2 ⟨rfl, hb2⟩))
          go_ret
          exact ⟨rfl, Below.after hb1.out hb2⟩
  by_cases h2 : s.toList = inO
  · obtain rfl : s = ⟨inO.toArray⟩ := by apply ByteArray.ext; apply Array.toList_inj.1; rw [ByteArray.toList_eq] at h2; simpa using h2
    clear h1 h2
    simp only [inO]
    go_enter Tryz.func7, Tryz.ntmps7
    go_wp2_with fail
    simp only [hkn]
    go_loopw [7, 8] (fun sv iv wr => ∃ j : Nat, j ≤ k ∧ iv = .int .i64 j ∧ sv = .string ⟨(wrapS j inO).toArray⟩ ∧ wr = w) (fun _ iv _ => k - (intOf iv).toNat)
    case atStart => exact ⟨0, Nat.zero_le _, rfl, rfl, rfl⟩
    case round =>
      obtain ⟨j, hj, rfl, rfl, rfl⟩ := hrel
      have hwl := wrapS_len inO j
      have hxl : (inO).length = 2 := rfl
      by_cases hlt : j < k
      · have hzs : (ByteArray.mk (wrapS j inO).toArray).size ≤ 600 := by rw [mk_size]; omega
        have HW : Hid (ByteArray.mk #[91] ++ ByteArray.mk (wrapS j inO).toArray ++ ByteArray.mk #[93] = ⟨(wrapS (j + 1) inO).toArray⟩) := Lib.hid (wrap_bytes _)
        clear hwl hxl
        generalize ByteArray.mk (wrapS j inO).toArray = a at *
        have hz1 : ¬ 9223372036854775807 < 1 + a.size := by omega
        have hz2 : ¬ 9223372036854775807 < 1 + a.size + 1 := by omega
        go_wp2_with fail
        go_roundw
        case rel => exact ⟨j + 1, by omega, by go_num, by rw [HW.out], trivial⟩
        case measure => simp [intOf]; omega
      · obtain rfl : j = k := by omega
        clear hwl hxl hlt
        have HP := Lib.hid (deep_parse inn_O j hk2 wr HT.out)
        generalize ByteArray.mk (wrapS j inO).toArray = a at *
        by_cases hg : j + 1 ≤ 128
        · have HQ : Hid (Calls Tryz.prog 11 #[.string a] wr fun e w' => ∃ (A : Option Addr) (m c : Nat), Hid (Below wr.heap.size wr w') ∧ e = .returned (.tuple #[.slice A m c, .int .i64 0, .int .i64 0]) ∧ Hid (Nds w' (.slice A m c) (flat (nest j trO)))) := Lib.hid (HP.out.mono (by
            rintro e w' ⟨A, m, c, h1, ⟨-, h2, h3⟩ | ⟨h2, -⟩⟩
            · exact ⟨A, m, c, h1, h2, h3⟩
            · exact absurd h2 (by omega)))
          have hgi : (j : Int) + 1 ≤ 128 := by omega
          have hgj : j ≤ 128 - 1 := by omega
          clear HP
          go_wp2_with (first
            | (go_at_call 11; refine HQ.out.mono ?_; rintro e w1 ⟨A, m, c, hb1, rfl, hv1⟩; have HT1 := Lib.hid (HT.out.below hb1.out))
            | (go_at_call 10; refine (alive_any _ HT1.out).mono ?_; rintro e w2 ⟨rfl, hb2⟩; have HB2 := Lib.hid hb2; have HV2 := Lib.hid (hv1.out.below hb2); clear hb2)
            | (go_at_call 19; refine ((deep_right inn_O j hk2 _ _ HV2.out).1).mono ?_; rintro e w3 ⟨rfl, hb3⟩; have HB3 := Lib.hid hb3; have HV3 := Lib.hid (HV2.out.below hb3); clear hb3)
            | (go_at_call 20; refine ((deep_right inn_O j hk2 _ _ HV3.out).2).mono ?_; rintro e w4 ⟨rfl, hb4⟩))
          go_ret
          exact ⟨ret_bool (by simp), Below.after (Below.after (Below.after hb1.out HB2.out) HB3.out) hb4⟩
        · have hgi : ¬ ((j : Int) + 1 ≤ 128) := by omega
          have hgj : ¬ (j + 1 ≤ 128) := hg
          have HQ : Hid (Calls Tryz.prog 11 #[.string a] wr fun e w' => ∃ (A : Option Addr) (c : Nat), Hid (Below wr.heap.size wr w') ∧ e = .returned (.tuple #[.slice A 0 c, .int .i64 128, .int .i64 3])) := Lib.hid (HP.out.mono (by
            rintro e w' ⟨A, m, c, h1, ⟨h2, -⟩ | ⟨-, h2⟩⟩
            · exact absurd h2 (by omega)
            · exact ⟨A, c, h1, by rw [h2]; simp⟩))
          clear HP
          go_wp2_with (first
            | (go_at_call 11; refine HQ.out.mono ?_; rintro e w1 ⟨A, c, hb1, rfl⟩; have HT1 := Lib.hid (HT.out.below hb1.out))
            | (go_at_call 10; refine (alive_any _ HT1.out).mono ?_; rintro e w2 ⟨rfl, hb2⟩))
          go_ret
          exact ⟨rfl, Below.after hb1.out hb2⟩
  by_cases h3 : s.toList = inA
  · obtain rfl : s = ⟨inA.toArray⟩ := by apply ByteArray.ext; apply Array.toList_inj.1; rw [ByteArray.toList_eq] at h3; simpa using h3
    clear h1 h2 h3
    simp only [inA]
    go_enter Tryz.func7, Tryz.ntmps7
    go_wp2_with fail
    simp only [hkn]
    go_loopw [7, 8] (fun sv iv wr => ∃ j : Nat, j ≤ k ∧ iv = .int .i64 j ∧ sv = .string ⟨(wrapS j inA).toArray⟩ ∧ wr = w) (fun _ iv _ => k - (intOf iv).toNat)
    case atStart => exact ⟨0, Nat.zero_le _, rfl, rfl, rfl⟩
    case round =>
      obtain ⟨j, hj, rfl, rfl, rfl⟩ := hrel
      have hwl := wrapS_len inA j
      have hxl : (inA).length = 8 := rfl
      by_cases hlt : j < k
      · have hzs : (ByteArray.mk (wrapS j inA).toArray).size ≤ 600 := by rw [mk_size]; omega
        have HW : Hid (ByteArray.mk #[91] ++ ByteArray.mk (wrapS j inA).toArray ++ ByteArray.mk #[93] = ⟨(wrapS (j + 1) inA).toArray⟩) := Lib.hid (wrap_bytes _)
        clear hwl hxl
        generalize ByteArray.mk (wrapS j inA).toArray = a at *
        have hz1 : ¬ 9223372036854775807 < 1 + a.size := by omega
        have hz2 : ¬ 9223372036854775807 < 1 + a.size + 1 := by omega
        go_wp2_with fail
        go_roundw
        case rel => exact ⟨j + 1, by omega, by go_num, by rw [HW.out], trivial⟩
        case measure => simp [intOf]; omega
      · obtain rfl : j = k := by omega
        clear hwl hxl hlt
        have HP := Lib.hid (deep_parse inn_A j hk2 wr HT.out)
        generalize ByteArray.mk (wrapS j inA).toArray = a at *
        by_cases hg : j + 2 ≤ 128
        · have HQ : Hid (Calls Tryz.prog 11 #[.string a] wr fun e w' => ∃ (A : Option Addr) (m c : Nat), Hid (Below wr.heap.size wr w') ∧ e = .returned (.tuple #[.slice A m c, .int .i64 0, .int .i64 0]) ∧ Hid (Nds w' (.slice A m c) (flat (nest j trA)))) := Lib.hid (HP.out.mono (by
            rintro e w' ⟨A, m, c, h1, ⟨-, h2, h3⟩ | ⟨h2, -⟩⟩
            · exact ⟨A, m, c, h1, h2, h3⟩
            · exact absurd h2 (by omega)))
          have hgi : (j : Int) + 2 ≤ 128 := by omega
          have hgj : j ≤ 128 - 2 := by omega
          clear HP
          go_wp2_with (first
            | (go_at_call 11; refine HQ.out.mono ?_; rintro e w1 ⟨A, m, c, hb1, rfl, hv1⟩; have HT1 := Lib.hid (HT.out.below hb1.out))
            | (go_at_call 10; refine (alive_any _ HT1.out).mono ?_; rintro e w2 ⟨rfl, hb2⟩; have HB2 := Lib.hid hb2; have HV2 := Lib.hid (hv1.out.below hb2); clear hb2)
            | (go_at_call 19; refine ((deep_right inn_A j hk2 _ _ HV2.out).1).mono ?_; rintro e w3 ⟨rfl, hb3⟩; have HB3 := Lib.hid hb3; have HV3 := Lib.hid (HV2.out.below hb3); clear hb3)
            | (go_at_call 20; refine ((deep_right inn_A j hk2 _ _ HV3.out).2).mono ?_; rintro e w4 ⟨rfl, hb4⟩))
          go_ret
          exact ⟨ret_bool (by simp), Below.after (Below.after (Below.after hb1.out HB2.out) HB3.out) hb4⟩
        · have hgi : ¬ ((j : Int) + 2 ≤ 128) := by omega
          have hgj : ¬ (j + 2 ≤ 128) := hg
          by_cases h7 : j = 127
          · subst h7
            have HQ : Hid (Calls Tryz.prog 11 #[.string a] wr fun e w' => ∃ (A : Option Addr) (c : Nat), Hid (Below wr.heap.size wr w') ∧ e = .returned (.tuple #[.slice A 0 c, .int .i64 132, .int .i64 3])) := Lib.hid (HP.out.mono (by
              rintro e w' ⟨A, m, c, h1, ⟨h2, -⟩ | ⟨-, h2⟩⟩
              · exact absurd h2 (by omega)
              · exact ⟨A, c, h1, by rw [h2]; simp⟩))
            clear HP
            go_wp2_with (first
              | (go_at_call 11; refine HQ.out.mono ?_; rintro e w1 ⟨A, c, hb1, rfl⟩; have HT1 := Lib.hid (HT.out.below hb1.out))
              | (go_at_call 10; refine (alive_any _ HT1.out).mono ?_; rintro e w2 ⟨rfl, hb2⟩))
            go_ret
            exact ⟨rfl, Below.after hb1.out hb2⟩
          · have h7i : ((j : Int) == 127) = false := by simp; omega
            have HQ : Hid (Calls Tryz.prog 11 #[.string a] wr fun e w' => ∃ (A : Option Addr) (c : Nat), Hid (Below wr.heap.size wr w') ∧ e = .returned (.tuple #[.slice A 0 c, .int .i64 128, .int .i64 3])) := Lib.hid (HP.out.mono (by
              rintro e w' ⟨A, m, c, h1, ⟨h2, -⟩ | ⟨-, h2⟩⟩
              · exact absurd h2 (by omega)
              · exact ⟨A, c, h1, by rw [h2]; simp [h7]⟩))
            clear HP
            go_wp2_with (first
              | (go_at_call 11; refine HQ.out.mono ?_; rintro e w1 ⟨A, c, hb1, rfl⟩; have HT1 := Lib.hid (HT.out.below hb1.out))
              | (go_at_call 10; refine (alive_any _ HT1.out).mono ?_; rintro e w2 ⟨rfl, hb2⟩))
            go_ret
            exact ⟨rfl, Below.after hb1.out hb2⟩
  have e1 : (s.toList == [110, 117, 108, 108]) = false := by simpa [inN] using h1
  have e2 : (s.toList == [123, 125]) = false := by simpa [inO] using h2
  have e3 : (s.toList == [123, 34, 97, 34, 58, 91, 93, 125]) = false := by simpa [inA] using h3
  go_enter Tryz.func7, Tryz.ntmps7
  go_wp2_with fail
  simp only [hkn]
  go_loopw [7, 8] (fun sv iv wr => ∃ j : Nat, j ≤ k ∧ iv = .int .i64 j ∧ sv = .string ⟨(wrapS j inI).toArray⟩ ∧ wr = w) (fun _ iv _ => k - (intOf iv).toNat)
  case atStart => exact ⟨0, Nat.zero_le _, rfl, rfl, rfl⟩
  case round =>
    obtain ⟨j, hj, rfl, rfl, rfl⟩ := hrel
    have hwl := wrapS_len inI j
    have hxl : (inI).length = 1 := rfl
    by_cases hlt : j < k
    · have hzs : (ByteArray.mk (wrapS j inI).toArray).size ≤ 600 := by rw [mk_size]; omega
      have HW : Hid (ByteArray.mk #[91] ++ ByteArray.mk (wrapS j inI).toArray ++ ByteArray.mk #[93] = ⟨(wrapS (j + 1) inI).toArray⟩) := Lib.hid (wrap_bytes _)
      clear hwl hxl
      generalize ByteArray.mk (wrapS j inI).toArray = a at *
      have hz1 : ¬ 9223372036854775807 < 1 + a.size := by omega
      have hz2 : ¬ 9223372036854775807 < 1 + a.size + 1 := by omega
      go_wp2_with fail
      go_roundw
      case rel => exact ⟨j + 1, by omega, by go_num, by rw [HW.out], trivial⟩
      case measure => simp [intOf]; omega
    · obtain rfl : j = k := by omega
      clear hwl hxl hlt
      have HP := Lib.hid (deep_parse inn_I j hk2 wr HT.out)
      generalize ByteArray.mk (wrapS j inI).toArray = a at *
      by_cases hg : j + 0 ≤ 128
      · have HQ : Hid (Calls Tryz.prog 11 #[.string a] wr fun e w' => ∃ (A : Option Addr) (m c : Nat), Hid (Below wr.heap.size wr w') ∧ e = .returned (.tuple #[.slice A m c, .int .i64 0, .int .i64 0]) ∧ Hid (Nds w' (.slice A m c) (flat (nest j trI)))) := Lib.hid (HP.out.mono (by
          rintro e w' ⟨A, m, c, h1, ⟨-, h2, h3⟩ | ⟨h2, -⟩⟩
          · exact ⟨A, m, c, h1, h2, h3⟩
          · exact absurd h2 (by omega)))
        have hgi : (j : Int) + 0 ≤ 128 := by omega
        have hgj : j ≤ 128 - 0 := by omega
        clear HP
        go_wp2_with (first
          | (go_at_call 11; refine HQ.out.mono ?_; rintro e w1 ⟨A, m, c, hb1, rfl, hv1⟩; have HT1 := Lib.hid (HT.out.below hb1.out))
          | (go_at_call 10; refine (alive_any _ HT1.out).mono ?_; rintro e w2 ⟨rfl, hb2⟩; have HB2 := Lib.hid hb2; have HV2 := Lib.hid (hv1.out.below hb2); clear hb2)
          | (go_at_call 19; refine ((deep_right inn_I j hk2 _ _ HV2.out).1).mono ?_; rintro e w3 ⟨rfl, hb3⟩; have HB3 := Lib.hid hb3; have HV3 := Lib.hid (HV2.out.below hb3); clear hb3)
          | (go_at_call 20; refine ((deep_right inn_I j hk2 _ _ HV3.out).2).mono ?_; rintro e w4 ⟨rfl, hb4⟩))
        go_ret
        exact ⟨ret_bool (by simp), Below.after (Below.after (Below.after hb1.out HB2.out) HB3.out) hb4⟩
      · have hgi : ¬ ((j : Int) + 0 ≤ 128) := by omega
        have hgj : ¬ (j + 0 ≤ 128) := hg
        have HQ : Hid (Calls Tryz.prog 11 #[.string a] wr fun e w' => ∃ (A : Option Addr) (c : Nat), Hid (Below wr.heap.size wr w') ∧ e = .returned (.tuple #[.slice A 0 c, .int .i64 128, .int .i64 3])) := Lib.hid (HP.out.mono (by
          rintro e w' ⟨A, m, c, h1, ⟨h2, -⟩ | ⟨-, h2⟩⟩
          · exact absurd h2 (by omega)
          · exact ⟨A, c, h1, by rw [h2]; simp⟩))
        clear HP
        go_wp2_with (first
          | (go_at_call 11; refine HQ.out.mono ?_; rintro e w1 ⟨A, c, hb1, rfl⟩; have HT1 := Lib.hid (HT.out.below hb1.out))
          | (go_at_call 10; refine (alive_any _ HT1.out).mono ?_; rintro e w2 ⟨rfl, hb2⟩))
        go_ret
        exact ⟨rfl, Below.after hb1.out hb2⟩
end Go.Proofs.YtbgciajfjllciaaGreatDoor

/-
  The statement TextDeep holds: called with any byte and any text, whatever lies in memory, it returns true, and each argument reads as it read before. Conditions: the listed variables of the library (two tables of bits, one of powers of ten, two of UTF-8, strconv's two errors) and the program's table of words read as the program's text lays them (the tie is given).
-/
namespace Go.Proofs.YtbgciajfjllciaaGreatDoor
open Go.ChangeShapes Go.WideShapes Go.ChangeAt Go.RowKit Go.ChangeMaps

set_option maxRecDepth 100000 in
theorem textDeep_lifted (os : Os) (started : os.Started) (H : Type) (enc : TypeId × Value → H) :
    ReturnsInHanded {} Tryz.checked os 7 .any (fun w args => (Rows.textDeepSpec.pre enc Tryz.prog Tryz.f7 [] false w args ∧ laidMetH Tryz.prog seatLaid w) ∧ sizedMet enc Tryz.prog Tryz.f7 (OpenSpec.ofChange Rows.textDeepSpec) false w args)
      (Rows.textDeepSpec.post enc Tryz.prog Tryz.f7 false true false false) := by
  refine returnsInHanded_of_change_and (C := Tryz.checked) (X := fun w _ => laidMetH Tryz.prog seatLaid w) (fun _ _ _ hh h => h.of_heap hh) ownKn started (by kernel_rfl) Tryz.func7
    (ChangeSpec.witness_shaped (enc := enc) (C := Tryz.checked) (os := os) (X := fun w _ => laidMetH Tryz.prog seatLaid w) false (World.laidAll Tryz.prog os seatLaid)
      #[.int .u8 0, .string ⟨#[]⟩] 8 (World.laidAll_os _ _ _)
      (World.shaped_of_ZipB (by kernel_rfl) (by kernel_rfl)) (by kernel_rfl) (by kernel_rfl) (by kernel_rfl) (laid_met os _)) ?_
  intro W base args ds gs before hval0 hW _ hwt0 hL _
  have hval : ∀ (j : Nat) t v, Tryz.f7.params[j]? = some t → args[j]? = some v → Value.okWide Tryz.prog W .any base t v := hval0
  have hW' := hW
  obtain ⟨p, q, hA0, hV, rfl, _, _⟩ := hW
  have hA : DataW.TrodAll enc Tryz.prog W 0 (fun _ => true) true Tryz.f7.params.toList args.toList ds p := hA0
  have hwt : (DataW.weightsEach Tryz.prog (Tryz.f7.params.toList ++ Rows.textDeepSpec.plain.varTypes Tryz.prog) (ds ++ gs)).all (· ≤ reachBytes) = true := hwt0
  rw [Tryz.params7] at hA hval
  obtain ⟨v0, v1, d0, d1, p0, p1, rfl, rfl, rfl, h0, h1⟩ := trodAll_two hA
  obtain ⟨rfl, rfl⟩ := trodVars_none hV
  obtain ⟨m0, rfl, -, -, w0⟩ := open_int Tryz.underlying5 (hval 0 _ v0 rfl rfl) h0
  obtain ⟨m0a, m0b⟩ := u8_range w0
  obtain ⟨n0, rfl⟩ := Int.eq_ofNat_of_zero_le m0a
  obtain ⟨t1, rfl, -, -, ht1⟩ := open_string Tryz.underlying9 (hval 1 _ v1 rfl rfl) h1
  refine (textDeep_any n0 t1 W (by omega) (tv_of_laid hL)).mono fun e W' ⟨he, hb⟩ => ?_
  subst he
  exact ⟨_, rfl, law_post (tb := 4) laidOut hW' rfl Tryz.underlying4 (by kernel_rfl) rfl (by
    rw [Tryz.params7]
    intro t ht
    have hall : ([5, 9].all fun t => Tryz.prog.readableRec t && decide (t < Tryz.prog.types.size)) = true := by kernel_rfl
    obtain ⟨h1, h2⟩ := Bool.and_eq_true_iff.1 (List.all_eq_true.1 hall t ht)
    exact ⟨h1, of_decide_eq_true h2⟩) hb⟩

theorem textDeep_holds : Rows.TextDeepSaid :=
  OpenClaim.holds_of_wide 7 Tryz.f7 rfl rfl rfl rfl rfl rfl rfl ⟨rfl, rfl, rfl, rfl, rfl⟩ rfl rfl rfl rfl rfl (by kernel_rfl) Tryz.func7 (by kernel_rfl)
    (of_decide_eq_true (by kernel_rfl)) (by unfold Func.isWrapper; first | (rw [if_pos (by decide +kernel)]; kernel_rfl) | (rw [if_neg (by decide +kernel)]; exact ⟨rfl, rfl⟩))
    (fun os started H enc _ => textDeep_lifted os started H enc)

theorem textDeep_card : Rows.TextDeepCardSaid :=
  Claim7.holds_tied_plain_at .later [] Rows.textDeepCard.laidKinds true Rows.textDeepCard.stood.harness Rows.textDeepCard.stood.looks
    textDeep_holds (fun _ h => by cases h) (by kernel_rfl) (fun _ h => by cases h) textDeep_row_tie rfl ⟨rfl, rfl⟩ (by kernel_rfl) rfl
    (fun f fn hf hfn => by
      obtain rfl : f = 7 := Option.some.inj ((show Tryz.prog.funcNamed "loupe/loupelaw04.TextDeep" = some 7 by kernel_rfl).symm.trans hf) |>.symm
      obtain rfl : fn = Tryz.f7 := (Option.some.inj (Tryz.func7.symm.trans hfn)).symm
      exact ⟨by kernel_rfl, fun j t ht => by
        rw [Tryz.params7] at ht
        have hm : t ∈ [5, 9] := by simpa using Array.mem_of_getElem? ht
        have hall : ([5, 9].all fun u => !Tryz.prog.wantsStandIn u) = true := by kernel_rfl
        exact (show Tryz.prog.wantsStandIn t = false by simpa using List.all_eq_true.1 hall t hm)⟩)
    (by kernel_rfl)
#print axioms textDeep_card
end Go.Proofs.YtbgciajfjllciaaGreatDoor
