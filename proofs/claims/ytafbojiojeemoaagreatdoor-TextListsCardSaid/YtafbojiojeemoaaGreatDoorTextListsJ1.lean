/-
  Joined: RefW7, RefW8, TxX, TlS, RefW9, LenP, SelP, RefW10, TlW, TextListsCard.
-/
import Derived.Test.YtafbojiojeemoaaGreatDoorTextCutJ7
import Derived.Test.YtafbojiojeemoaaGreatDoorTextCutJ1
import Derived.Test.YtafbojiojeemoaaGreatDoorRefW6
import Derived.Test.YtafbojiojeemoaaGreatDoorTextCutJ13
import Derived.Test.YtafbojiojeemoaaGreatDoorTextCutJ15
import Derived.Test.YtafbojiojeemoaaGreatDoorTextCutJ16
import Derived.Test.YtafbojiojeemoaaGreatDoorTextCutJ11
import Derived.Test.YtafbojiojeemoaaGreatDoorBase
import Derived.Test.YtafbojiojeemoaaGreatDoorRefW1

/-
  What the document's own answers are: own, Parts, Names, Depth.
-/
namespace Go.Proofs.YtafbojiojeemoaaGreatDoor
open Go.RowKit Np Rw Vp

set_option maxRecDepth 100000 in
set_option maxHeartbeats 4000000 in
theorem refOwn_any (v : Value) (l : List Nd) (a b : Nat) (n : Nd) (rest : List Nd) (w : World) (hv : Nds w v l) (hl : l.length ≤ 65536) (hab : a < b) (hbl : b ≤ l.length) (hs : (l.drop a).take (b - a) = n :: rest) :
    Calls Tryz.prog 109 #[v, .int .i64 a, .int .i64 b] w (OwnsN w (noName n :: rest)) := by
  obtain ⟨g, o, c, rfl, hc, hcm, hg, -⟩ := hv.opened (by omega)
  have HPC : Hid (Nds w (.slice (some ⟨g, o + a * 6, none⟩) (b - a) (c - a)) (n :: rest)) := Lib.hid (by
    have := hv.piece a (b - a) (by omega)
    rwa [hs] at this)
  have HLN : Hid ((n :: rest).length = b - a) := Lib.hid (by rw [← hs]; simp; omega)
  clear hs hv
  generalize hn : l.length = N at *
  have hac : a ≤ c := by omega
  have hbc : b ≤ c := by omega
  have hane : ¬ a = c := by omega
  clear hn
  generalize hr : n :: rest = r at HPC HLN
  have HR := Lib.hid hr
  clear hr
  go_enter Tryz.func109, Tryz.ntmps109
  have HO0 : Hid (OwnN w.heap.size (w.alloc (.cells #[] 35)) (.slice (some ⟨w.heap.size, 0, none⟩) 0 0) []) := Lib.hid (by
    have := Own.lit (base := w.heap.size) (E := 35) ndc_len w #[] [] (Nat.le_refl _) (by simp) rfl
    simpa using this)
  go_wp2_with (at_builtin; refine wpList_append_row (base := w.heap.size) elNode rfl _ _ rfl rfl HO0.out rfl (HPC.out.below ((Below.refl _ _).alloc (Nat.le_refl _) _)) ?_ ?_ ?_ ?_)
  · have := HLN.out; unfold maxLen; simp only [List.length_nil]; omega
  · have := HLN.out; simp only [List.length_nil]; omega
  · simp
  · intro A3 c3 w3 hown3 hg3 hwh
    clear hwh
    have HO3 : Hid (OwnN w.heap.size w3 (.slice A3 r.length c3) r) := Lib.hid hown3
    have HB3 : Hid (Below w.heap.size w w3) := Lib.hid (((Below.refl w.heap.size w).alloc (Nat.le_refl _) (.cells #[] 35)).trans (HO0.out.kept hg3 (by simp)))
    clear hown3 hg3
    obtain ⟨g', rfl, hc3, HG⟩ : ∃ g', A3 = some ⟨g', 0, none⟩ ∧ b - a ≤ c3 ∧ Hid (w.heap.size ≤ g' ∧ g' < w3.heap.size) := by
      have h := HO3.out
      obtain ⟨g', cap, hv, h1, h2⟩ := h.opened (by have := HLN.out; omega)
      injection hv with e1 _ e3
      have := h.cap.2.1
      exact ⟨g', e1, by have := HLN.out; omega, Lib.hid ⟨h1, h2⟩⟩
    have hk0 : r[0]? = some n := by rw [← HR.out]; rfl
    have x0 := Own.cell ndc_len (j := 0) HO3.out hk0 rfl
    have x1 := Own.cell ndc_len (j := 1) HO3.out hk0 rfl
    have x2 := Own.cell ndc_len (j := 2) HO3.out hk0 rfl
    have x3 := Own.cell ndc_len (j := 3) HO3.out hk0 rfl
    have x4 := Own.cell ndc_len (j := 4) HO3.out hk0 rfl
    have x5 := Own.cell ndc_len (j := 5) HO3.out hk0 rfl
    simp only [Nat.zero_mul, Nat.zero_add] at x0 x1 x2 x3 x4 x5
    have HK0 := Lib.hid hk0
    clear hk0
    rw [HLN.out] at HO3 ⊢
    have hba : 0 < b - a := by omega
    have HTH : Hid (∀ ob : Obj, (w3.alloc ob).there g' 0 6) := Lib.hid (fun ob => by
      have h : OwnN w.heap.size (w3.alloc ob) (.slice (some ⟨g', 0, none⟩) r.length c3) r := by rw [HLN.out]; exact HO3.out.alloc ob
      have := Own.there ndc_len h HK0.out
      simpa using this)
    have HPU : Hid (∀ ob : Obj, OwnN w.heap.size ((w3.alloc ob).setCells g' 0 (ndc (noName n))) (.slice (some ⟨g', 0, none⟩) (b - a) c3) (noName n :: rest)) := Lib.hid (fun ob => by
      have h : OwnN w.heap.size (w3.alloc ob) (.slice (some ⟨g', 0, none⟩) r.length c3) r := by rw [HLN.out]; exact HO3.out.alloc ob
      have h2 := Own.puts (y := noName n) ndc_len h HK0.out
      rw [HLN.out] at h2
      rw [← HR.out] at h2
      simpa using h2)
    go_wp2_with (refine wpList_store_node rfl _ _ rfl g' 0 (noName n) rfl rfl (HTH.out _) ?_)
    go_ret
    exact ⟨_, rfl, HPU.out _, Below.setCells HG.out.1 _ _ (HB3.out.alloc HB3.out.size _)⟩

theorem Elems.aside {base : Nat} {W W' : World} {v : Value} {xs zs : List (Option Addr × Nat × Nat)} {L : List (List Nd)} (h : Elems base W zs L) (hv : Own slc 1 24 base W v xs) (hg : W.grownBy W' v.ownBlock) : Elems base W' zs L :=
  ⟨h.1, fun k z l hz hl => Own.aside (h.2 k z l hz hl) hv (by decide) hg⟩

/-- What is handed back is one's own, so that more can be appended to it. -/
def OwnsV (w : World) (L : List (List Nd)) (e : Ending) (w' : World) : Prop := ∃ v' zs, e = .returned v' ∧ Own slc 1 24 w.heap.size w' v' zs ∧ Elems w.heap.size w' zs L ∧ Below w.heap.size w w'
def OwnsS (w : World) (L : List (List UInt8)) (e : Ending) (w' : World) : Prop := ∃ v', e = .returned v' ∧ Own stc 1 9 w.heap.size w' v' L ∧ Below w.heap.size w w'

set_option maxRecDepth 100000 in
set_option maxHeartbeats 4000000 in
theorem refParts_own (v : Value) (t : Tr Nd) (w : World) (hv : Nds w v (flat t)) (hl : (flat t).length ≤ 65536) (ht : Val t) :
    Calls Tryz.prog 72 #[v] w (OwnsV w (t.ks.map fun k => flat (nmd [] k))) := by
  have hvo := hv
  obtain ⟨g, o, c, rfl, hc, hcm, hg, hx⟩ := hvo.opened (flat_pos t)
  have hmany : t.nd.many = t.ks.length := (okT_eq.1 ht.ok).1
  have a1 : w.cell? ⟨g, o + 1, none⟩ = some (.int .i64 (t.ks.length : Nat)) := by
    have := (hx 0 t.nd (by rw [flat_eq]; rfl)).nd.c1
    rw [hmany] at this
    simpa using this
  have HA1 := Lib.hid a1
  have HV := Lib.hid hv
  have HKS := Lib.hid (okT_eq.1 ht.ok).2
  have hkl : t.ks.length ≤ 65536 := by
    have h1 := flats_len t.ks
    rw [flat_eq] at hl
    simp at hl
    omega
  have hpos := flat_pos t
  have HDR : Hid (∀ pre post, t.ks = pre ++ post → (flat t).drop (1 + (flats pre).length) = flats post) := Lib.hid (fun pre post h => by
    rw [flat_eq, h, flats_append, Nat.add_comm, List.drop_succ_cons, List.drop_left])
  clear hx hv hvo hmany a1
  have HLL := Lib.hid hl
  generalize hn : (flat t).length = n at *
  have HN := Lib.hid hn
  clear hn
  generalize hq : t.ks.length = q at *
  have HQ := Lib.hid hq
  clear hq
  go_enter Tryz.func72, Tryz.ntmps72
  have HO0 : Hid (Own slc 1 24 w.heap.size (w.alloc (.cells #[] 24)) (.slice (some ⟨w.heap.size, 0, none⟩) 0 0) []) := Lib.hid (by
    have := Own.lit (base := w.heap.size) (E := 24) slc_len w #[] [] (Nat.le_refl _) (by simp) rfl
    simpa using this)
  go_wp2_with fail
  go_loopw [3, 4, 5] (fun ov iv kv wr => ∃ (pre post : List (Tr Nd)) (zs : List (Option Addr × Nat × Nat)), t.ks = pre ++ post ∧ kv = .int .i64 pre.length ∧ iv = .int .i64 (1 + (flats pre).length : Nat) ∧ Own slc 1 24 w.heap.size wr ov zs ∧ Elems w.heap.size wr zs (pre.map fun k => flat (nmd [] k)) ∧ Below w.heap.size w wr) (fun _ _ kv _ => q - (intOf kv).toNat)
  case atStart => exact ⟨[], t.ks, [], rfl, rfl, rfl, HO0.out, ⟨rfl, fun k z l h => by simp at h⟩, (Below.refl _ _).alloc (Nat.le_refl _) _⟩
  case round =>
    obtain ⟨pre, post, zs, hpp, rfl, rfl, hown, hels, hb⟩ := hrel
    have a2 := (hb.cell (p := ⟨g, o + 1, none⟩) hg).trans HA1.out
    have HO := Lib.hid hown
    have HE := Lib.hid hels
    have HB := Lib.hid hb
    have HP := Lib.hid hpp
    have hlen : pre.length + post.length = q := by rw [← HQ.out, hpp]; simp
    clear hown hels hb hpp
    cases post with
    | nil =>
      simp only [List.length_nil, Nat.add_zero] at hlen
      have HF : Hid (pre = t.ks) := Lib.hid (by rw [HP.out]; simp)
      have hlt : ¬ (pre.length : Int) < q := by omega
      have HLN := Lib.hid hlen
      clear hlen
      go_wp2_with fail
      go_ret
      exact ⟨_, _, rfl, HO.out, by have := HE.out; rwa [HF.out] at this, HB.out⟩
    | cons u rest =>
      simp only [List.length_cons] at hlen
      have hdr := HDR.out pre (u :: rest) HP.out
      rw [flats_cons] at hdr
      have hoku : okT many u := by have := HKS.out; rw [HP.out, okTs_append, okTs_cons] at this; exact this.2.1
      have hnx := nxt_at hdr hoku
      have hpl := part_lt hdr
      have hup := flat_pos u
      have hlt : (pre.length : Int) < q := by omega
      rw [HN.out] at hpl
      generalize hi : 1 + (flats pre).length = i at *
      generalize hm : (flat u).length = m at *
      have HNX := Lib.hid hnx
      have HDRU : Hid (((flat t).drop i).take (i + m - i) = u.nd :: flats u.ks) := Lib.hid (by
        rw [hdr, show i + m - i = m by omega, ← hm, List.take_left, ← flat_eq])
      have HIX : Hid (1 + (flats (pre ++ [u])).length = i + m) := Lib.hid (by rw [flats_append, flats_cons]; simp; omega)
      have HPL := Lib.hid hlen
      have HUM := Lib.hid hm
      clear hdr hoku hnx hi hm hlen
      have hib : i ≤ n := by omega
      have hOW := refOwn_any (.slice (some ⟨g, o, none⟩) n c) (flat t) i (i + m) u.nd (flats u.ks) wr (HV.out.below HB.out) (by rw [HN.out]; exact hl) (by omega) (by rw [HN.out]; exact hpl) HDRU.out
      rw [Int.natCast_add] at hOW
      have HOW := Lib.hid hOW
      clear hOW
      go_wp2_with (go_at_call 65; refine (refNext_any _ (flat t) i _ (HV.out.below HB.out) (by rw [HN.out]; exact hl) (by rw [HN.out]; exact hib)).mono ?_; rintro e w' ⟨rfl, rfl⟩; rw [HNX.out])
      refine HOW.out.mono ?_
      rintro e w1 ⟨v1, rfl, ho1, hb1⟩
      obtain ⟨A1, c1, rfl, -⟩ := ho1.form
      have HZ : Hid (OwnN w.heap.size w1 (.slice A1 (noName u.nd :: flats u.ks).length c1) (flat (nmd [] u))) := Lib.hid (by rw [nmd, flat_mk]; exact ho1.mono HB.out.size)
      have HO1 := Lib.hid (HO.out.below hb1)
      have HE1 := Lib.hid (HE.out.below hb1)
      have HB1 := Lib.hid (Below.after HB.out hb1)
      clear ho1 hb1 a2
      generalize (noName u.nd :: flats u.ks).length = m2 at HZ ⊢
      have HZL : Hid (zs.length + 1 ≤ 65537) := Lib.hid (by have := HE1.out.1; rw [List.length_map] at this; omega)
      go_wp2_with (at_builtin; refine wpList_append_row (base := w.heap.size) elVal rfl _ _ rfl rfl (HO1.out.alloc _) rfl (row_one slc_len w1 _ rfl 24 #[.slice A1 m2 c1] (A1, m2, c1) rfl) ?_ ?_ ?_ ?_)
      · have := HZL.out; unfold maxLen; simp only [List.length_singleton]; omega
      · have := HZL.out; simp only [List.length_singleton]; omega
      · have := HB1.out.size; simp; omega
      · intro A' c' w2 hown2 hg2 hwh
        clear hwh
        have HO2 : Hid (Own slc 1 24 w.heap.size w2 (.slice A' (zs.length + 1) c') (zs ++ [(A1, m2, c1)])) := Lib.hid hown2
        have HE2 : Hid (Elems w.heap.size w2 (zs ++ [(A1, m2, c1)]) ((pre ++ [u]).map fun k => flat (nmd [] k))) := Lib.hid (by
          have h1 : Elems w.heap.size w2 zs (pre.map fun k => flat (nmd [] k)) := (HE1.out.below ((Below.refl _ _).alloc (Nat.le_refl _) _)).aside (HO1.out.alloc _) hg2
          have h2 : OwnN w.heap.size w2 (.slice A1 m2 c1) (flat (nmd [] u)) := Own.aside (HZ.out.alloc _) (HO1.out.alloc _) (by decide) hg2
          rw [List.map_append]
          exact h1.snoc h2)
        have HB2 : Hid (Below w.heap.size w w2) := Lib.hid ((HB1.out.alloc HB1.out.size _).trans ((HO1.out.alloc _).kept hg2 (by have := HB1.out.size; simp; omega)))
        clear hown2 hg2
        generalize zs.length + 1 = zl at HO2 ⊢
        go_wp2_with fail
        go_roundw
        case rel => exact ⟨pre ++ [u], rest, zs ++ [(A1, m2, c1)], by rw [HP.out]; simp, by simp, by rw [HIX.out]; go_num, HO2.out, HE2.out, HB2.out⟩
        case measure => simp [intOf]; omega

theorem refParts_any (v : Value) (t : Tr Nd) (w : World) (hv : Nds w v (flat t)) (hl : (flat t).length ≤ 65536) (ht : Val t) :
    Calls Tryz.prog 72 #[v] w (GivesV w (t.ks.map fun k => flat (nmd [] k))) :=
  (refParts_own v t w hv hl ht).mono fun _ _ ⟨v', _, h1, h2, h3, h4⟩ => ⟨v', h1, h3.vls (h2.row slc_len), h4⟩

set_option maxRecDepth 100000 in
set_option maxHeartbeats 4000000 in
theorem refNames_own (v : Value) (t : Tr Nd) (w : World) (hv : Nds w v (flat t)) (hl : (flat t).length ≤ 65536) (ht : Val t) :
    Calls Tryz.prog 73 #[v] w (OwnsS w (namesT t)) := by
  have hvo := hv
  obtain ⟨g, o, c, rfl, hc, hcm, hg, hx⟩ := hvo.opened (flat_pos t)
  have hmany : t.nd.many = t.ks.length := (okT_eq.1 ht.ok).1
  have a1 : w.cell? ⟨g, o + 1, none⟩ = some (.int .i64 (t.ks.length : Nat)) := by
    have := (hx 0 t.nd (by rw [flat_eq]; rfl)).nd.c1
    rw [hmany] at this
    simpa using this
  have a0 : w.cell? ⟨g, o, none⟩ = some (.int .i64 t.nd.kind) := by
    have := (hx 0 t.nd (by rw [flat_eq]; rfl)).nd.c0
    simpa using this
  have HA1 := Lib.hid a1
  have HV := Lib.hid hv
  have HXX := Lib.hid hx
  have HKS := Lib.hid (okT_eq.1 ht.ok).2
  have hkl : t.ks.length ≤ 65536 := by
    have h1 := flats_len t.ks
    rw [flat_eq] at hl
    simp at hl
    omega
  have hpos := flat_pos t
  have HDR : Hid (∀ pre post, t.ks = pre ++ post → (flat t).drop (1 + (flats pre).length) = flats post) := Lib.hid (fun pre post h => by
    rw [flat_eq, h, flats_append, Nat.add_comm, List.drop_succ_cons, List.drop_left])
  clear hx hv hvo hmany a1
  generalize hn : (flat t).length = n at *
  have HN := Lib.hid hn
  clear hn
  generalize hq : t.ks.length = q at *
  have HQ := Lib.hid hq
  clear hq
  have HO0 : Hid (Own stc 1 9 w.heap.size (w.alloc (.cells #[] 9)) (.slice (some ⟨w.heap.size, 0, none⟩) 0 0) []) := Lib.hid (by
    have := Own.lit (base := w.heap.size) (E := 9) stc_len w #[] [] (Nat.le_refl _) (by simp) rfl
    simpa using this)
  by_cases hk : t.nd.kind = 6
  · have HNT : Hid (namesT t = t.ks.map fun k => k.nd.name) := Lib.hid (by rw [namesT, if_pos hk])
    rw [hk] at a0
    have HA0 := Lib.hid a0
    clear a0 hk
    go_enter Tryz.func73, Tryz.ntmps73
    go_wp2_with fail
    go_loopw [3, 4, 5] (fun ov iv kv wr => ∃ (pre post : List (Tr Nd)), t.ks = pre ++ post ∧ kv = .int .i64 pre.length ∧ iv = .int .i64 (1 + (flats pre).length : Nat) ∧ Own stc 1 9 w.heap.size wr ov (pre.map fun k => k.nd.name) ∧ Below w.heap.size w wr) (fun _ _ kv _ => q - (intOf kv).toNat)
    case atStart => exact ⟨[], t.ks, rfl, rfl, rfl, HO0.out, (Below.refl _ _).alloc (Nat.le_refl _) _⟩
    case round =>
      obtain ⟨pre, post, hpp, rfl, rfl, hown, hb⟩ := hrel
      have a2 := (hb.cell (p := ⟨g, o + 1, none⟩) hg).trans HA1.out
      have a3 := (hb.cell (p := ⟨g, o, none⟩) hg).trans HA0.out
      have HO := Lib.hid hown
      have HB := Lib.hid hb
      have HP := Lib.hid hpp
      have hlen : pre.length + post.length = q := by rw [← HQ.out, hpp]; simp
      clear hown hpp
      cases post with
      | nil =>
        simp only [List.length_nil, Nat.add_zero] at hlen
        have HF : Hid (pre = t.ks) := Lib.hid (by rw [HP.out]; simp)
        have hlt : ¬ (pre.length : Int) < q := by omega
        clear hlen hb
        go_wp2_with fail
        go_ret
        exact ⟨_, rfl, by rw [HNT.out, ← HF.out]; exact HO.out, HB.out⟩
      | cons u rest =>
        simp only [List.length_cons] at hlen
        have hdr := HDR.out pre (u :: rest) HP.out
        rw [flats_cons] at hdr
        have hoku : okT many u := by have := HKS.out; rw [HP.out, okTs_append, okTs_cons] at this; exact this.2.1
        have hnx := nxt_at hdr hoku
        have hpl := part_lt hdr
        have hup := flat_pos u
        have hlt : (pre.length : Int) < q := by omega
        have hhd := head_at hdr
        rw [HN.out] at hpl
        generalize hi : 1 + (flats pre).length = i at *
        have b2 := (hb.cell (p := ⟨g, o + i * 6 + 2, none⟩) hg).trans (HXX.out i _ hhd).nd.c2
        generalize hm : (flat u).length = m at *
        have HNX := Lib.hid hnx
        have HIX : Hid (1 + (flats (pre ++ [u])).length = i + m) := Lib.hid (by rw [flats_append, flats_cons]; simp; omega)
        have HPL : Hid (pre.length + 1 ≤ 65537) := Lib.hid (by omega)
        have hii : (i : Int) < n := by omega
        have hiin : i < n := by omega
        generalize hnm : u.nd.name = nm at b2
        have HNM := Lib.hid hnm
        have hprel : (pre.map fun k => k.nd.name).length = pre.length := by simp
        generalize hpn : (pre.map fun k => k.nd.name) = pn at HO hprel
        have HPN := Lib.hid hpn
        have HPNL := Lib.hid hprel
        have hlq := hlen
        clear hdr hoku hnx hi hm hlen hhd hnm hpn hprel hb
        have HLQ := Lib.hid hlq
        clear hlq
        go_wp2_with (at_builtin; refine wpList_append_row (base := w.heap.size) elText rfl _ _ rfl rfl (HO.out.alloc _) rfl (row_one stc_len wr _ rfl 9 #[.string ⟨nm.toArray⟩] nm rfl) ?_ ?_ ?_ ?_)
        · have := HPL.out; have := HPNL.out; unfold maxLen; simp only [List.length_singleton]; omega
        · have := HPL.out; have := HPNL.out; simp only [List.length_singleton]; omega
        · have := HB.out.size; simp; omega
        · intro A' c' w2 hown2 hg2 hwh
          clear hwh
          have HO2 : Hid (Own stc 1 9 w.heap.size w2 (.slice A' (pn.length + 1) c') (pn ++ [nm])) := Lib.hid hown2
          have HB2 : Hid (Below w.heap.size w w2) := Lib.hid ((HB.out.alloc HB.out.size _).trans ((HO.out.alloc _).kept hg2 (by have := HB.out.size; simp; omega)))
          clear hown2 hg2
          generalize pn.length + 1 = zl at HO2 ⊢
          have hib : i ≤ n := by omega
          clear a2 a3 b2
          go_wp2_with (go_at_call 65; refine (refNext_any _ (flat t) i _ (HV.out.below HB2.out) (by rw [HN.out]; exact hl) (by rw [HN.out]; exact hib)).mono ?_; rintro e w' ⟨rfl, rfl⟩; rw [HNX.out])
          go_roundw
          case rel => exact ⟨pre ++ [u], rest, by rw [HP.out]; simp, by simp, by rw [HIX.out]; go_num, by rw [List.map_append, HPN.out]; have := HO2.out; rw [← HNM.out] at this; exact this, HB2.out⟩
          case measure => have := HLQ.out; simp [intOf]; omega
  · have HNT : Hid (namesT t = []) := Lib.hid (by rw [namesT, if_neg hk])
    have e6 : (t.nd.kind == 6) = false := by simp [hk]
    have a1 := HA1.out
    clear hk
    go_enter Tryz.func73, Tryz.ntmps73
    go_wp2_with fail
    go_loopw [3, 4, 5] (fun ov iv kv wr => kv = .int .i64 0 ∧ ov = .slice (some ⟨w.heap.size, 0, none⟩) 0 0 ∧ wr = w.alloc (.cells #[] 9)) (fun _ _ _ _ => 0)
    case atStart => exact ⟨rfl, rfl, rfl⟩
    case round =>
      obtain ⟨rfl, rfl, rfl⟩ := hrel
      by_cases hq0 : 0 < q
      · have hq1 : (0 : Int) < q := by omega
        go_wp2_with fail
        go_ret
        exact ⟨_, rfl, by rw [HNT.out]; exact HO0.out, (Below.refl _ _).alloc (Nat.le_refl _) _⟩
      · have hq1 : ¬ (0 : Int) < q := by omega
        go_wp2_with fail
        go_ret
        exact ⟨_, rfl, by rw [HNT.out]; exact HO0.out, (Below.refl _ _).alloc (Nat.le_refl _) _⟩
theorem refNames_any (v : Value) (t : Tr Nd) (w : World) (hv : Nds w v (flat t)) (hl : (flat t).length ≤ 65536) (ht : Val t) :
    Calls Tryz.prog 73 #[v] w (GivesS w (namesT t)) :=
  (refNames_own v t w hv hl ht).mono fun _ _ ⟨v', h1, h2, h4⟩ => ⟨v', h1, h2.row stc_len, h4⟩
end Go.Proofs.YtafbojiojeemoaaGreatDoor

/-
  What the document's own answer Depth is.
-/
namespace Go.Proofs.YtafbojiojeemoaaGreatDoor
open Go.RowKit Np Rw Vp

theorem depths_snoc : ∀ (ts : List (Tr Nd)) (u : Tr Nd), depths (ts ++ [u]) = max (depths ts) (depth u)
  | [], u => by simp
  | t :: ts, u => by rw [List.cons_append, depths_cons, depths_snoc ts u, depths_cons]; omega

mutual
theorem depth_le : ∀ t : Tr Nd, depth t ≤ (flat t).length
  | .mk n ks => by
    have := depths_le2 ks
    rw [depth_mk, flat_mk, List.length_cons]
    split <;> omega
theorem depths_le2 : ∀ ts : List (Tr Nd), depths ts ≤ (flats ts).length
  | [] => by simp
  | t :: ts => by
    have h1 := depth_le t
    have h2 := depths_le2 ts
    rw [depths_cons, flats_cons, List.length_append]
    omega
end

end Go.Proofs.YtafbojiojeemoaaGreatDoor

/-
  The walk of TextBack: it answers true.
-/
namespace Go.Proofs.YtafbojiojeemoaaGreatDoor
open Go.RowKit Np Rw Vp Up Qp Tp

theorem run_plain : ∀ (l : List Nd) (st : List Hd), Vp.run st l = true → ∀ x ∈ l, plainN x = true
  | [], _, _, x, hx => by cases hx
  | n :: l, [], h, x, hx => by simp [Vp.run] at h
  | n :: l, h :: st, hr, x, hx => by
    rw [run_cons, Bool.and_eq_true, Bool.and_eq_true] at hr
    rcases List.mem_cons.1 hx with rfl | hx
    · exact hr.1.2
    · exact run_plain l _ hr.2 x hx
theorem val_plain {t : Tr Nd} (h : Val t) : ∀ x ∈ flat t, plainN x = true := run_plain _ _ (rightL_val h)
theorem fit_plain {n : Nd} (hp : plainN n = true) (h1 : n.name.length ≤ 1000000) (h2 : n.s.length ≤ 1000000) : FitN n := by
  unfold plainN at hp
  split at hp
  · rename_i h
    simp at hp
    exact ⟨by omega, by omega, h2, h1, by omega, by omega⟩
  · split at hp
    · rename_i h
      obtain ⟨b1, b2, b3⟩ := right_bounds hp
      simp only at b2 b3
      exact ⟨by omega, by omega, h2, h1, by omega, by omega⟩
    · split at hp
      · simp at hp
        exact ⟨by omega, by omega, h2, h1, by omega, by omega⟩
      · split at hp
        · simp at hp
          exact ⟨by omega, by omega, h2, h1, by omega, by omega⟩
        · cases hp
theorem fitT_of {t : Tr Nd} (hv : Val t) (hs : ∀ x ∈ flat t, x.name.length ≤ 1000000 ∧ x.s.length ≤ 1000000) (hl : (flat t).length ≤ 1000) : FitT t :=
  ⟨hv.ok, hv.rt, fun x hx => fit_plain (val_plain hv x hx) (hs x hx).1 (hs x hx).2, hl⟩
theorem wS_small : ∀ {l : List Nd}, (∀ x ∈ l, x.name.length ≤ 200 ∧ x.s.length ≤ 200) → wS l ≤ 2400 * l.length
  | [], _ => by simp [wS]
  | x :: l, h => by
    have h1 := wS_small fun y hy => h y (List.mem_cons_of_mem _ hy)
    have h2 := h x (by simp)
    have h3 := (wrs_len x.name).2
    have h4 := (wrs_len x.s).2
    rw [wS_cons, List.length_cons, wN]
    split <;> omega
theorem wN_mem : ∀ {l : List Nd} {x : Nd}, x ∈ l → wN x ≤ wS l
  | y :: l, x, h => by
    rw [wS_cons]
    rcases List.mem_cons.1 h with rfl | h
    · omega
    · have := wN_mem h; omega
theorem sizes_of {l : List Nd} {B : Nat} (hp : ∀ x ∈ l, plainN x = true) (h : wS l ≤ B) (hB : 100 ≤ B) : ∀ x ∈ l, x.name.length ≤ B ∧ x.s.length ≤ B := by
  intro x hx
  have h1 := wN_mem hx
  have h2 := (wrs_len x.name).1
  have h3 := (wrs_len x.s).1
  have h4 := hp x hx
  rw [wN] at h1
  refine ⟨by omega, ?_⟩
  unfold plainN at h4
  split at h4
  · simp at h4; rw [h4.1.1.2]; simp
  · split at h4
    · have := (right_bounds h4).1; simp only at this; omega
    · split at h4
      · rename_i hk; rw [if_pos hk] at h1; omega
      · split at h4
        · simp at h4; rw [h4.1.1.2]; simp
        · cases h4
theorem parse_back (ln : Bool) {t : Tr Nd} (hv : Val t) (hd : depth t ≤ 128) : prsR (prT ln 0 t) = (flat t, 0, 0) := by
  have hb := back ln (prT ln 0 t) _ t 0 128 (Nat.le_refl _) hv.ok hv.rt hd 0 [] [] Blk.nil (by simp) Stop.nil
  have e : nmd [] t = t := by conv => rhs; rw [← nmd_self t, hv.nm]
  simp only [e, List.length_nil, Nat.zero_add] at hb
  exact prs_ok hb (by rw [sk_over (Nat.le_refl _)]; omega)
theorem depth_len (t : Tr Nd) : depth t ≤ (flat t).length := by
  have := depths_le2 t.ks
  rw [depth_eq, flat_eq, List.length_cons]
  split <;> omega

/-- Parse answers this value. -/
def BackE (t : Tr Nd) (w : World) (e : Ending) (w' : World) : Prop :=
  ∃ (A : Option Addr) (m c : Nat), e = .returned (.tuple #[.slice A m c, .int .i64 0, .int .i64 0]) ∧ Hid (Nds w' (.slice A m c) (flat t)) ∧ Hid (Below w.heap.size w w')
theorem back_calls (ln : Bool) {t : Tr Nd} (hv : Val t) (hd : depth t ≤ 128) (hz : (prT ln 0 t).length ≤ 400000) (w : World) (hT : Tv w) :
    Calls Tryz.prog 9 #[.string ⟨(prT ln 0 t).toArray⟩] w (BackE t w) := by
  refine (parse_any ⟨(prT ln 0 t).toArray⟩ w (by rw [mk_size]; exact hz) hT.er hT.tabs hT.wds).mono ?_
  rintro e w' ⟨V, he, hV, hb⟩
  change e = .returned (.tuple #[V, .int .i64 ((prsR (prT ln 0 t)).2.1 : Nat), .int .i64 (prsR (prT ln 0 t)).2.2]) at he
  change OwnN w.heap.size w' V (prsR (prT ln 0 t)).1 at hV
  rw [parse_back ln hv hd] at he hV
  obtain ⟨A, c, rfl, h⟩ := hV.row ndc_len
  exact ⟨A, _, c, he, Lib.hid ⟨A, c, rfl, h⟩, Lib.hid hb⟩
/-- A value's two texts: they are written, and read again as it. -/
structure Texts (t : Tr Nd) (TC TI : ByteArray) : Prop where
  c : ∀ w v, Nds w v (flat t) → Tv w → Calls Tryz.prog 13 #[v] w fun e w' => e = .returned (.string TC) ∧ Below w.heap.size w w'
  i : ∀ w v, Nds w v (flat t) → Tv w → Calls Tryz.prog 15 #[v] w fun e w' => e = .returned (.string TI) ∧ Below w.heap.size w w'
  pc : ∀ w, Tv w → Calls Tryz.prog 9 #[.string TC] w (BackE t w)
  pi : ∀ w, Tv w → Calls Tryz.prog 9 #[.string TI] w (BackE t w)
/-- What is known of a value that has few nodes. -/
structure Known (t : Tr Nd) : Prop where
  val : Val t
  dep : depth t ≤ 60
  len : (flat t).length ≤ 60
  sh : ∀ x ∈ flat t, x.name.length ≤ 200 ∧ x.s.length ≤ 200
  zc : (prT false 0 t).length ≤ 170000
  zi : (prT true 0 t).length ≤ 170000
theorem texts_known {l : List Nd} (h : few 60 l = true) : ∃ t, l = flat t ∧ Known t ∧ Texts t ⟨(prT false 0 t).toArray⟩ ⟨(prT true 0 t).toArray⟩ := by
  unfold few at h
  rw [Bool.and_eq_true, Bool.and_eq_true] at h
  obtain ⟨⟨h1, h2⟩, h3⟩ := h
  have h1 := of_decide_eq_true h1
  obtain ⟨t, hv, rfl⟩ := val_of_rightL h3
  have hs : ∀ x ∈ flat t, x.name.length ≤ 200 ∧ x.s.length ≤ 200 := by
    intro x hx
    have := List.all_eq_true.1 h2 x hx
    simp [shortN] at this
    exact ⟨this.2, this.1⟩
  have hF : FitT t := fitT_of hv (fun x hx => ⟨by have := (hs x hx).1; omega, by have := (hs x hx).2; omega⟩) (by omega)
  have hd := depth_len t
  have hw := wS_small hs
  have hc := compact_len hv.ok hv.rt
  have hi := indent_len hv.ok hv.rt (D := 60) (by omega)
  refine ⟨t, rfl, ⟨hv, by omega, by omega, hs, by omega, by omega⟩, fun w v hv2 hT => compact_any t v w hF hv2 (by omega) hT.pow hT.wds, fun w v hv2 hT => indent_any t v w hF hv2 (by omega) hT.pow hT.wds, fun w hT => back_calls false hv (by omega) (by omega) w hT, fun w hT => back_calls true hv (by omega) (by omega) w hT⟩
theorem texts_of {l : List Nd} (h : few 60 l = true) : ∃ t TC TI, l = flat t ∧ Texts t TC TI := by
  obtain ⟨t, h1, -, h2⟩ := texts_known h
  exact ⟨t, _, _, h1, h2⟩
theorem same_true (va vb : Value) (l : List Nd) (w : World) (ha : Nds w va l) (hb : Nds w vb l) : Calls Tryz.prog 11 #[va, vb] w fun e w' => e = .returned (.bool true) ∧ Below w.heap.size w w' := by
  have := refSame_any va vb l l w ha hb
  rwa [decide_eq_true (rfl : l = l)] at this
end Go.Proofs.YtafbojiojeemoaaGreatDoor

/-
  Plain words: a text within a longer one, with no numeral behind it, is read as it is alone; marks bound how deep it is. No program stands here.
-/
namespace Go.Proofs.YtafbojiojeemoaaGreatDoor
namespace Tp
open Go.RowKit Np Rw Vp Up Qp

def isMk (c : UInt8) : Bool := decide (c = 91) || decide (c = 123)
/-- How many marks stand from a place on. -/
def cnt (a : List UInt8) (i : Nat) : Nat := ((a.drop i).filter isMk).length
theorem cnt_le {a : List UInt8} {i j : Nat} (h : i ≤ j) : cnt a j ≤ cnt a i := by
  unfold cnt
  have e : a.drop j = (a.drop i).drop (j - i) := by rw [List.drop_drop]; congr 1; omega
  rw [e]
  exact ((List.drop_sublist _ _).filter _).length_le
theorem cnt_at {a : List UInt8} {i : Nat} (hm : bt a i = 91 ∨ bt a i = 123) : cnt a i = cnt a (i + 1) + 1 := by
  have h : i < a.length := bt_lt (by omega)
  have e : a.drop i = a[i] :: a.drop (i + 1) := by rw [List.getElem_cons_drop h]
  have e2 : bt a i = a[i].toNat := by simp [bt, List.getD_eq_getElem?_getD, List.getElem?_eq_getElem h]
  have hc : isMk a[i] = true := by
    unfold isMk
    rw [e2] at hm
    rcases hm with h | h
    · have : a[i] = 91 := UInt8.toNat_inj.1 (h.trans rfl)
      rw [this]; rfl
    · have : a[i] = 123 := UInt8.toNat_inj.1 (h.trans rfl)
      rw [this]; rfl
  unfold cnt
  rw [e, List.filter_cons_of_pos hc, List.length_cons]

/-- One text stands in another one at a place, with no numeral behind. -/
def Stands (S a : List UInt8) (p : Nat) : Prop := ∃ Q, S.drop p = a ++ Q ∧ Stop Q
theorem skF_shift (p : Nat) : ∀ (l : List UInt8) (i : Nat), skF l (p + i) = p + skF l i
  | [], i => rfl
  | c :: l, i => by
    rw [skF, skF]
    split
    · exact skF_shift p l (i + 1)
    · rfl
theorem skF_app (Q : List UInt8) : ∀ (l : List UInt8) (i : Nat), skF l i < i + l.length → skF (l ++ Q) i = skF l i
  | [], i, h => by simp [skF] at h
  | c :: l, i, h => by
    rw [List.cons_append, skF, skF]
    rw [skF] at h
    split
    · rename_i hc
      rw [if_pos hc, List.length_cons] at h
      exact skF_app Q l (i + 1) (by omega)
    · rfl
theorem skF_blk : ∀ (l : List UInt8) (i : Nat), i + l.length ≤ skF l i → Blk l
  | [], _, _ => Blk.nil
  | c :: l, i, h => by
    rw [skF] at h
    rw [List.length_cons] at h
    split at h
    · rename_i hc
      have := skF_blk l (i + 1) (by omega)
      intro x hx
      rcases List.mem_cons.1 hx with rfl | hx
      · exact hc
      · exact this x hx
    · omega
theorem blk_tail {a : List UInt8} {k : Nat} (hk : k ≤ a.length) (h : ¬ sk a k < a.length) : Blk (a.drop k) := by
  refine skF_blk _ k ?_
  rw [List.length_drop]
  have : skF (a.drop k) k = sk a k := rfl
  omega
section
variable {S a : List UInt8} {p : Nat}
theorem Stands.drop (h : Stands S a p) {i : Nat} (hi : i ≤ a.length) : ∃ Q, S.drop (p + i) = a.drop i ++ Q ∧ Stop Q := by
  obtain ⟨Q, h1, h2⟩ := h
  refine ⟨Q, ?_, h2⟩
  rw [← List.drop_drop, h1, List.drop_append_of_le_length hi]
theorem Stands.bt (h : Stands S a p) {i : Nat} (hi : i < a.length) : bt S (p + i) = bt a i := by
  obtain ⟨Q, h1, -⟩ := h
  have e : Up.bt (S.drop p) i = Up.bt S (p + i) := bt_drop ..
  rw [← e, h1]
  simp [Up.bt, List.getD_eq_getElem?_getD, List.getElem?_append_left hi]
theorem Stands.len (h : Stands S a p) (ha : 0 < a.length) : p + a.length ≤ S.length := by
  obtain ⟨Q, h1, -⟩ := h
  have := congrArg List.length h1
  rw [List.length_drop, List.length_append] at this
  omega
theorem Stands.sk (h : Stands S a p) {i : Nat} (hs : sk a i < a.length) : sk S (p + i) = p + sk a i := by
  have hi : i ≤ a.length := by have := sk_ge a i; omega
  obtain ⟨Q, h1, -⟩ := h.drop hi
  unfold Tp.sk
  rw [h1, skF_shift, skF_app]
  rw [List.length_drop]
  have : skF (a.drop i) i = Tp.sk a i := rfl
  omega
theorem unqs_stable {l : List UInt8} (t : List UInt8) (h : (unqs l).2.2 = 0) : unqs (l ++ t) = unqs l := by
  unfold unqs at h ⊢
  by_cases h34 : Up.bt l 0 = 34
  · have hl : 0 < l.length := bt_lt (by omega)
    have hb : Up.bt (l ++ t) 0 = 34 := by rw [← h34]; simp [Up.bt, List.getD_eq_getElem?_getD, List.getElem?_append_left hl]
    rw [if_pos h34] at h
    rw [if_pos hb, if_pos h34, List.drop_append_of_le_length hl]
    generalize hu : unq [] (l.drop 1) 1 = U at *
    obtain ⟨x, n, e⟩ := U
    simp only at h
    subst h
    exact unq_stable _ _ _ t _ _ _ (Nat.le_refl _) hu
  · rw [if_neg h34] at h
    cases h
theorem Stands.str (h : Stands S a p) {i k : Nat} {v : List UInt8} (hr : stR a i = .ok v k) : stR S (p + i) = .ok v (p + k) := by
  obtain ⟨h1, h2, -⟩ := stR_ok hr
  obtain ⟨Q, h3, -⟩ := h.drop (i := i) (by omega)
  unfold stR at hr ⊢
  by_cases h0 : (unqs (a.drop i)).2.2 = 0
  · rw [if_pos h0] at hr
    rw [h3, unqs_stable Q h0, if_pos h0]
    injection hr with e1 e2
    rw [e1, ← e2, Nat.add_assoc]
  · rw [if_neg h0] at hr; cases hr
theorem take_stop {Q : List UInt8} (hQ : Stop Q) : ∀ l : List UInt8, (l ++ Q).takeWhile (numB.contains ·) = l.takeWhile (numB.contains ·)
  | [] => by
    cases Q with
    | nil => rfl
    | cons c Q => rw [List.nil_append, List.takeWhile_cons, if_neg (by rw [hQ c rfl]; decide)]; rfl
  | c :: l => by
    rw [List.cons_append, List.takeWhile_cons, List.takeWhile_cons, take_stop hQ l]
theorem Stands.nu (h : Stands S a p) {i k : Nat} {v : List Nd} (hi : i ≤ a.length) (hr : nuR a i = .ok v k) : nuR S (p + i) = .ok v (p + k) := by
  obtain ⟨Q, h3, hQ⟩ := h.drop hi
  have e : nuT S (p + i) = nuT a i := by unfold nuT; rw [h3, take_stop hQ]
  unfold nuR at hr ⊢
  rw [e]
  by_cases h0 : (readF (nuT a i)).2.2 = 0
  · rw [if_pos h0] at hr ⊢
    injection hr with e1 e2
    rw [e1, ← e2, Nat.add_assoc]
  · rw [if_neg h0] at hr; cases hr
theorem wo_ok {i k : Nat} {v : List Nd} (hr : woR a i = .ok v k) : ∃ (x : Int) (r : List UInt8), (x = 0 ∨ x = 1 ∨ x = 2) ∧ a.drop i = wordT x ++ r ∧ v = [hdN x 0] ∧ k = i + (wordT x).length := by
  unfold woR at hr
  have key : ∀ w, Lib.hasPrefix (a.drop i) w = true → ∃ r, a.drop i = w ++ r := fun w h => by
    unfold Lib.hasPrefix at h
    obtain ⟨r, h⟩ := List.isPrefixOf_iff_prefix.1 h
    exact ⟨r, h.symm⟩
  split at hr
  · rename_i h
    obtain ⟨r, h⟩ := key _ h
    injection hr with e1 e2
    exact ⟨0, r, .inl rfl, h, e1.symm, e2.symm⟩
  · split at hr
    · rename_i h
      obtain ⟨r, h⟩ := key _ h
      injection hr with e1 e2
      exact ⟨1, r, .inr (.inl rfl), h, e1.symm, e2.symm⟩
    · split at hr
      · rename_i h
        obtain ⟨r, h⟩ := key _ h
        injection hr with e1 e2
        exact ⟨2, r, .inr (.inr rfl), h, e1.symm, e2.symm⟩
      · cases hr
theorem Stands.wo (h : Stands S a p) {i k : Nat} {v : List Nd} (hi : i ≤ a.length) (hr : woR a i = .ok v k) : woR S (p + i) = .ok v (p + k) := by
  obtain ⟨Q, h3, -⟩ := h.drop hi
  obtain ⟨x, r, hx, hd, rfl, rfl⟩ := wo_ok hr
  rw [hd, List.append_assoc] at h3
  rw [(wo_back hx h3).1, Nat.add_assoc]
theorem Stands.vl1 (h : Stands S a p) {arr obj arr' obj' : Nat → Rs (List Nd)} {j k : Nat} {v : List Nd} (hj : j < a.length)
    (ha : Up.bt a j = 91 → arr j = .ok v k → arr' (p + j) = .ok v (p + k)) (ho : Up.bt a j = 123 → obj j = .ok v k → obj' (p + j) = .ok v (p + k))
    (hr : vl1 a arr obj j = .ok v k) : vl1 S arr' obj' (p + j) = .ok v (p + k) := by
  have hb := h.bt hj
  unfold Tp.vl1 at hr ⊢
  rw [hb]
  by_cases c1 : Up.bt a j = 91
  · rw [if_pos c1] at hr ⊢; exact ha c1 hr
  rw [if_neg c1] at hr ⊢
  by_cases c2 : Up.bt a j = 123
  · rw [if_pos c2] at hr ⊢; exact ho c2 hr
  rw [if_neg c2] at hr ⊢
  by_cases c3 : Up.bt a j = 34
  · rw [if_pos c3] at hr ⊢
    obtain ⟨s, h1, rfl⟩ := mapR_ok hr
    rw [h.str h1]; rfl
  rw [if_neg c3] at hr ⊢
  by_cases c4 : Up.bt a j = 45 ∨ 48 ≤ Up.bt a j ∧ Up.bt a j ≤ 57
  · rw [if_pos c4] at hr ⊢; exact h.nu (by omega) hr
  · rw [if_neg c4] at hr ⊢; exact h.wo (by omega) hr
/-- The first byte of what is read. -/
theorem vl1_first {arr obj : Nat → Rs (List Nd)} {j k : Nat} {v : List Nd} (hr : Tp.vl1 a arr obj j = .ok v k) : bt a j ≠ 93 ∧ bt a j ≠ 125 := by
  unfold Tp.vl1 at hr
  by_cases c1 : Up.bt a j = 91
  · omega
  rw [if_neg c1] at hr
  by_cases c2 : Up.bt a j = 123
  · omega
  rw [if_neg c2] at hr
  by_cases c3 : Up.bt a j = 34
  · omega
  rw [if_neg c3] at hr
  by_cases c4 : Up.bt a j = 45 ∨ 48 ≤ Up.bt a j ∧ Up.bt a j ≤ 57
  · omega
  rw [if_neg c4] at hr
  obtain ⟨x, r, hx, hd, -, -⟩ := wo_ok hr
  have := (wo_back hx hd).2
  omega
section
variable {α β : Type} {rd rd' : Nat → Rs α} {put : β → α → β} {c : Nat}
theorem Stands.lp (h : Stands S a p) (hc : c ≠ 0) (i0 : Nat) (hrd : ∀ i v k, i0 ≤ i → rd i = .ok v k → i < k ∧ rd' (p + i) = .ok v (p + k)) :
    ∀ m m' i acc r q, m ≤ m' → i0 ≤ i → lpR rd put a c m i acc = .ok r q → lpR rd' put S c m' (p + i) acc = .ok r (p + q)
  | 0, _, _, _, _, _, _, _, hr => by cases hr
  | m + 1, 0, _, _, _, _, hm, _, _ => by omega
  | m + 1, m' + 1, i, acc, r, q, hm, hi, hr => by
    cases hv : rd i with
    | bad e x => rw [lpR_bad hv] at hr; cases hr
    | ok v k =>
      obtain ⟨h1, h2⟩ := hrd i v k hi hv
      rw [lpR_ok hv, lpA] at hr
      rw [lpR_ok h2, lpA]
      by_cases c1 : Up.bt a (Tp.sk a k) = c
      · have hl : Tp.sk a k < a.length := bt_lt (by omega)
        rw [if_pos c1] at hr
        rw [h.sk hl, h.bt hl, if_pos c1]
        injection hr with e1 e2
        rw [e1, ← e2, Nat.add_assoc]
      · rw [if_neg c1] at hr
        by_cases c2 : Up.bt a (Tp.sk a k) = 44
        · have hl : Tp.sk a k < a.length := bt_lt (by omega)
          rw [if_pos c2] at hr
          rw [h.sk hl, h.bt hl, if_neg c1, if_pos c2, Nat.add_assoc]
          have := sk_ge a k
          exact h.lp hc i0 hrd m m' _ _ r q (by omega) (by omega) hr
        · rw [if_neg c2] at hr; cases hr
theorem Stands.pt (h : Stands S a p) (hc : c ≠ 0) {zero : β} {j : Nat} {r : β} {q : Nat} (hj : j < a.length) (hrd : ∀ i v k, j + 1 ≤ i → rd i = .ok v k → i < k ∧ k ≤ a.length ∧ rd' (p + i) = .ok v (p + k))
    (hr : ptR rd put zero a c j = .ok r q) : ptR rd' put zero S c (p + j) = .ok r (p + q) := by
  have hl2 := h.len (by omega)
  unfold ptR at hr ⊢
  have h4 := sk_ge a (j + 1)
  have hlt : Tp.sk a (j + 1) < a.length := by
    by_cases c1 : Up.bt a (Tp.sk a (j + 1)) = c
    · exact bt_lt (by omega)
    · rw [if_neg c1] at hr
      rw [lpR] at hr
      cases hv : rd (Tp.sk a (j + 1)) with
      | bad e x => rw [hv] at hr; cases hr
      | ok v k => have := hrd _ _ _ h4 hv; omega
  have hs := h.sk hlt
  rw [← Nat.add_assoc] at hs
  rw [hs, h.bt hlt]
  by_cases c1 : Up.bt a (Tp.sk a (j + 1)) = c
  · rw [if_pos c1] at hr ⊢
    injection hr with e1 e2
    rw [e1, ← e2, Nat.add_assoc]
  · rw [if_neg c1] at hr ⊢
    exact h.lp hc (j + 1) (fun i v k hi hv => ⟨(hrd i v k hi hv).1, (hrd i v k hi hv).2.2⟩) _ _ _ _ r q (by omega) h4 hr
end
theorem Stands.fd (h : Stands S a p) {rd rd' : Nat → Rs (List Nd)} (i0 : Nat) (hrd : ∀ i v k, i0 ≤ i → rd i = .ok v k → rd' (p + i) = .ok v (p + k)) {i k : Nat} {v : Pr} (hi : i0 ≤ i) (hr : fdR rd a i = .ok v k) : fdR rd' S (p + i) = .ok v (p + k) := by
  unfold fdR at hr ⊢
  cases hs : stR a (Tp.sk a i) with
  | bad e q => rw [hs] at hr; cases hr
  | ok nm k1 =>
    rw [hs] at hr
    simp only at hr
    obtain ⟨g1, g2, -⟩ := stR_ok hs
    have hl : Tp.sk a i < a.length := by omega
    rw [h.sk hl, h.str hs]
    simp only
    by_cases c1 : Up.bt a (Tp.sk a k1) = 58
    · have hl1 : Tp.sk a k1 < a.length := bt_lt (by omega)
      rw [if_pos c1] at hr
      rw [h.sk hl1, h.bt hl1, if_pos c1, Nat.add_assoc]
      cases hv : rd (Tp.sk a k1 + 1) with
      | bad e q => rw [hv] at hr; cases hr
      | ok x k2 =>
        rw [hv] at hr
        have h5 := sk_ge a k1
        have h6 := sk_ge a i
        rw [hrd _ x k2 (by omega) hv]
        injection hr with e1 e2
        subst e1 e2
        rfl
    · rw [if_neg c1] at hr; cases hr
/-- What is read alone is read within a longer text, if it may be so deep. -/
theorem Stands.vl (h : Stands S a p) : ∀ (n n' i : Nat) (v : List Nd) (k : Nat), vlR a n i = .ok v k → cnt a i ≤ n' → vlR S n' (p + i) = .ok v (p + k) := by
  intro n
  induction n with
  | zero =>
    intro n' i v k hr hc
    have hr0 := hr
    rw [vlR_sk] at hr
    obtain ⟨g1, g2, -⟩ := vlR_goes a 0 _ _ _ hr
    have hj : Tp.sk a i < a.length := by omega
    have hsk := h.sk hj
    rw [vlR_zero] at hr0
    cases n' with
    | zero => rw [vlR_zero, hsk]; exact h.vl1 hj (fun _ h => by cases h) (fun _ h => by cases h) hr0
    | succ n' => rw [vlR_succ, hsk]; exact h.vl1 hj (fun _ h => by cases h) (fun _ h => by cases h) hr0
  | succ n ih =>
    intro n' i v k hr hc
    have hr0 := hr
    rw [vlR_sk] at hr
    obtain ⟨g1, g2, -⟩ := vlR_goes a (n + 1) _ _ _ hr
    have hj : Tp.sk a i < a.length := by omega
    have hsk := h.sk hj
    have hle := cnt_le (a := a) (sk_ge a i)
    rw [vlR_succ] at hr0
    cases n' with
    | zero =>
      rw [vlR_zero, hsk]
      exact h.vl1 hj (fun hb _ => by have := cnt_at (.inl hb); omega) (fun hb _ => by have := cnt_at (.inr hb); omega) hr0
    | succ n' =>
      rw [vlR_succ, hsk]
      refine h.vl1 hj (fun hb hv => ?_) (fun hb hv => ?_) hr0
      · have hcn := cnt_at (.inl hb)
        have hv' : mapR liV (ptR (vlR a n) snoc [] a 93 (Tp.sk a i)) = .ok v k := hv
        obtain ⟨L, h1, rfl⟩ := mapR_ok hv'
        show mapR liV (ptR (vlR S n') snoc [] S 93 (p + Tp.sk a i)) = _
        rw [h.pt (rd' := vlR S n') (by decide) hj (fun i2 v2 k2 hi2 hv2 => ?_) h1]
        · rfl
        · obtain ⟨q1, q2, -⟩ := vlR_goes a n _ _ _ hv2
          have := cnt_le (a := a) hi2
          exact ⟨q1, q2, ih n' i2 v2 k2 hv2 (by omega)⟩
      · have hcn := cnt_at (.inr hb)
        have hv' : mapR obV (ptR (fdR (vlR a n) a) putP [] a 125 (Tp.sk a i)) = .ok v k := hv
        obtain ⟨L, h1, rfl⟩ := mapR_ok hv'
        show mapR obV (ptR (fdR (vlR S n') S) putP [] S 125 (p + Tp.sk a i)) = _
        rw [h.pt (rd' := fdR (vlR S n') S) (by decide) hj (fun i2 v2 k2 hi2 hv2 => ?_) h1]
        · rfl
        · obtain ⟨q1, q2, -⟩ := fdR_ok (vlR_goes a n) hv2
          refine ⟨by omega, q2, h.fd (rd' := vlR S n') (Tp.sk a i + 1) (fun i3 v3 k3 hi3 hv3 => ?_) hi2 hv2⟩
          have := cnt_le (a := a) hi3
          exact ih n' i3 v3 k3 hv3 (by omega)
end

/-! ### two texts, side by side -/
/-- A text that is a value alone. -/
structure Alone (a : List UInt8) (x : List Nd) : Prop where
  ok : ∃ k, vlR a 128 0 = .ok x k ∧ ¬ sk a k < a.length
  few : cnt a 0 < 128
theorem alone_of {a : List UInt8} {x : List Nd} (h : prsR a = (x, 0, 0)) (hx : x ≠ []) (hc : cnt a 0 < 128) : Alone a x := by
  refine ⟨?_, hc⟩
  unfold prsR at h
  cases hv : vlR a 128 0 with
  | bad e p => rw [hv] at h; simp only [Prod.mk.injEq] at h; exact absurd h.1.symm hx
  | ok v k =>
    rw [hv] at h
    simp only at h
    by_cases hs : sk a k < a.length
    · rw [if_pos hs] at h; simp only [Prod.mk.injEq] at h; exact absurd h.1.symm hx
    · rw [if_neg hs] at h; simp only [Prod.mk.injEq] at h; exact ⟨k, by rw [h.1], hs⟩
theorem prs_ok2 {S : List UInt8} {v : List Nd} {k : Nat} (h : vlR S 128 0 = .ok v k) (hk : ¬ sk S k < S.length) : prsR S = (v, 0, 0) := by
  unfold prsR; rw [h]; show (if sk S k < S.length then _ else _) = _; rw [if_neg hk]
/-- Where it stands in a longer text, with a mark behind it. -/
theorem Alone.at {S a R : List UInt8} {x : List Nd} {p : Nat} {c : UInt8} (h : Alone a x) (hS : S.drop p = a ++ c :: R) (hc : blk c.toNat = false) (hn : numB.contains c = false) :
    ∃ k, vlR S 127 p = .ok x k ∧ sk S k = p + a.length ∧ bt S (sk S k) = c.toNat ∧ (bt S (sk S p) ≠ 93 ∧ bt S (sk S p) ≠ 125) ∧ p + a.length < S.length := by
  obtain ⟨⟨k, h1, h2⟩, h3⟩ := h
  have hst : Stands S a p := ⟨c :: R, hS, Stop.cons hn⟩
  have g := vlR_goes a 128 _ _ _ h1
  have hv := hst.vl 128 127 0 x k h1 (by omega)
  rw [Nat.add_zero] at hv
  have hbl := blk_tail g.2.1 h2
  obtain ⟨Q, hq, -⟩ := hst.drop g.2.1
  have hd : S.drop (p + k) = a.drop k ++ c :: R := by
    rw [← List.drop_drop, hS, List.drop_append_of_le_length g.2.1]
  have hs := sk_blanks hd hbl (fun y hy => by injection hy with hy; subst hy; exact hc)
  rw [List.length_drop, show p + k + (a.length - k) = p + a.length by omega] at hs
  have hlen := congrArg List.length hS
  rw [List.length_drop, List.length_append, List.length_cons] at hlen
  have h128 : vlR a 128 (sk a 0) = .ok x k := by rw [← vlR_sk]; exact h1
  have g2 := vlR_goes a 128 _ _ _ h128
  have hj : sk a 0 < a.length := by omega
  have hf : bt a (sk a 0) ≠ 93 ∧ bt a (sk a 0) ≠ 125 := by
    have h4 := h1
    rw [show (128 : Nat) = 127 + 1 from rfl, vlR_succ] at h4
    exact vl1_first h4
  have hsp := hst.sk hj
  rw [Nat.add_zero] at hsp
  refine ⟨p + k, hv, hs, ?_, ?_, by omega⟩
  · rw [hs]
    exact bt_of (drop_of hS)
  · rw [hsp, hst.bt hj]; exact hf
theorem lp_two {α β : Type} {rd : Nat → Rs α} {put : β → α → β} {S : List UInt8} {c m i k1 k2 : Nat} {v1 v2 : α} {acc : β} (hc : c ≠ 44) (h1 : rd i = .ok v1 k1) (b1 : bt S (sk S k1) = 44) (h2 : rd (sk S k1 + 1) = .ok v2 k2) (b2 : bt S (sk S k2) = c) :
    lpR rd put S c (m + 2) i acc = .ok (put (put acc v1) v2) (sk S k2 + 1) := by
  rw [lpR_ok h1, lpA, if_neg (by omega), if_pos b1, lpR_ok h2, lpA, if_pos b2]
/-- A field whose name is one letter. -/
theorem fd_one {S a R : List UInt8} {x : List Nd} {p : Nat} {c d : UInt8} (hd : d = 97 ∨ d = 98) (h : Alone a x) (hS : S.drop p = 34 :: d :: 34 :: 58 :: (a ++ c :: R)) (hc : blk c.toNat = false) (hn : numB.contains c = false) :
    ∃ k, fdR (vlR S 127) S p = .ok ([d], x) k ∧ sk S k = p + 4 + a.length ∧ bt S (sk S k) = c.toNat ∧ p + 4 + a.length < S.length := by
  have h4 : S.drop (p + 4) = a ++ c :: R := drop_of (a := [34, d, 34, 58]) hS
  obtain ⟨k, g1, g2, g3, -, g4⟩ := h.at h4 hc hn
  have hst : stR S p = .ok [d] (p + 3) := by
    have e : S.drop p = quo [d] ++ (58 :: (a ++ c :: R)) := by
      rw [hS]
      rcases hd with rfl | rfl <;> rfl
    have hb := quo_back [d] (58 :: (a ++ c :: R)) (by rcases hd with rfl | rfl <;> decide)
    unfold stR
    rw [e, hb]
    rcases hd with rfl | rfl <;> rfl
  have h3 : S.drop (p + 3) = 58 :: (a ++ c :: R) := drop_of (a := [34, d, 34]) hS
  refine ⟨k, ?_, g2, g3, g4⟩
  unfold fdR
  rw [sk_here hS (by decide), hst]
  simp only
  rw [sk_here h3 (by decide), bt_of h3, if_pos (by decide), g1]
theorem two_list {a b : List UInt8} {x y : List Nd} (ha : Alone a x) (hb : Alone b y) : prsR (91 :: (a ++ 44 :: (b ++ [93]))) = (liV [x, y], 0, 0) := by
  have hS1 : (91 :: (a ++ 44 :: (b ++ [93]))).drop 1 = a ++ 44 :: (b ++ [93]) := rfl
  obtain ⟨k1, a1, a2, a3, a4, a5⟩ := ha.at hS1 (by decide) (by decide)
  have hS2 : (91 :: (a ++ 44 :: (b ++ [93]))).drop (1 + a.length + 1) = b ++ 93 :: [] := by
    have : (91 :: (a ++ 44 :: (b ++ [93]))).drop (1 + a.length) = 44 :: (b ++ [93]) := drop_of hS1
    exact drop_of (a := [44]) this
  obtain ⟨k2, b1, b2, b3, -, b5⟩ := hb.at hS2 (by decide) (by decide)
  generalize hS : 91 :: (a ++ 44 :: (b ++ [93])) = S at *
  have hlen : S.length = 1 + a.length + 1 + b.length + 1 := by rw [← hS]; simp; omega
  have h0 : bt S 0 = 91 := by rw [← hS]; rfl
  have hsk : sk S 0 = 0 := by
    rw [← hS]; rfl
  have hl : lpR (vlR S 127) snoc S 93 (S.length + 1) (sk S 1) [] = .ok [x, y] (sk S k2 + 1) := by
    have h1 : vlR S 127 (sk S 1) = .ok x k1 := by rw [← vlR_sk]; exact a1
    have := lp_two (put := snoc) (S := S) (c := 93) (m := S.length - 1) (acc := []) (by decide) h1 a3 (by rw [a2]; exact b1) b3
    rw [show S.length - 1 + 2 = S.length + 1 by omega] at this
    exact this
  refine prs_ok2 (k := sk S k2 + 1) ?_ ?_
  · rw [show (128 : Nat) = 127 + 1 from rfl, vlR_succ, hsk, vl1, if_pos h0]
    show mapR liV (ptR (vlR S 127) snoc [] S 93 0) = _
    unfold ptR
    rw [if_neg a4.1, hl]; rfl
  · rw [b2, sk_over (by omega)]; omega
theorem two_obj {a b : List UInt8} {x y : List Nd} {c d : UInt8} (hc : c = 97 ∨ c = 98) (hd : d = 97 ∨ d = 98) (ha : Alone a x) (hb : Alone b y) :
    prsR (123 :: 34 :: c :: 34 :: 58 :: (a ++ 44 :: 34 :: d :: 34 :: 58 :: (b ++ [125]))) = (obV (putP (putP [] ([c], x)) ([d], y)), 0, 0) := by
  have hS1 : (123 :: 34 :: c :: 34 :: 58 :: (a ++ 44 :: 34 :: d :: 34 :: 58 :: (b ++ [125]))).drop 1 = 34 :: c :: 34 :: 58 :: (a ++ 44 :: (34 :: d :: 34 :: 58 :: (b ++ [125]))) := rfl
  obtain ⟨k1, a1, a2, a3, a5⟩ := fd_one hc ha hS1 (by decide) (by decide)
  have hS2 : (123 :: 34 :: c :: 34 :: 58 :: (a ++ 44 :: 34 :: d :: 34 :: 58 :: (b ++ [125]))).drop (1 + 4 + a.length + 1) = 34 :: d :: 34 :: 58 :: (b ++ 125 :: []) := by
    have h4 : (123 :: 34 :: c :: 34 :: 58 :: (a ++ 44 :: 34 :: d :: 34 :: 58 :: (b ++ [125]))).drop (1 + 4) = a ++ (44 :: 34 :: d :: 34 :: 58 :: (b ++ [125])) := rfl
    have h5 := drop_of h4
    exact drop_of (a := [44]) h5
  obtain ⟨k2, b1, b2, b3, b5⟩ := fd_one hd hb hS2 (by decide) (by decide)
  generalize hS : 123 :: 34 :: c :: 34 :: 58 :: (a ++ 44 :: 34 :: d :: 34 :: 58 :: (b ++ [125])) = S at *
  have hlen : S.length = 1 + 4 + a.length + 1 + 4 + b.length + 1 := by rw [← hS]; simp; omega
  have h0 : bt S 0 = 123 := by rw [← hS]; rfl
  have hsk : sk S 0 = 0 := by rw [← hS]; rfl
  have hsk1 : sk S 1 = 1 := sk_here hS1 (by decide)
  have hb1 : bt S 1 = 34 := bt_of hS1
  have hl : lpR (fdR (vlR S 127) S) putP S 125 (S.length + 1) 1 [] = .ok (putP (putP [] ([c], x)) ([d], y)) (sk S k2 + 1) := by
    have := lp_two (put := putP) (S := S) (c := 125) (m := S.length - 1) (acc := []) (by decide) a1 a3 (by rw [a2]; exact b1) b3
    rw [show S.length - 1 + 2 = S.length + 1 by omega] at this
    exact this
  refine prs_ok2 (k := sk S k2 + 1) ?_ ?_
  · rw [show (128 : Nat) = 127 + 1 from rfl, vlR_succ, hsk, vl1, if_neg (by omega), if_pos h0]
    show mapR obV (ptR (fdR (vlR S 127) S) putP [] S 125 0) = _
    unfold ptR
    rw [hsk1, if_neg (by omega), hl]; rfl
  · rw [b2, sk_over (by omega)]; omega
theorem put_two {c d : UInt8} (h : c ≠ d) (x y : List Nd) : putP (putP [] ([c], x)) ([d], y) = [([c], x), ([d], y)] := by
  have : ¬ ([d] : List UInt8) ∈ [([c], x)].map (·.1) := by simp; exact fun e => h e.symm
  rw [show putP [] ([c], x) = [([c], x)] from rfl, putP_new _ _ this]; rfl
theorem put_one (c : UInt8) (x y : List Nd) : putP (putP [] ([c], x)) ([c], y) = [([c], y)] := by
  rw [show putP [] ([c], x) = [([c], x)] from rfl]
  simp [putP]
/-- Two fields, whichever stands ahead. -/
theorem ob_turn (x y : List Nd) : obV [([98], y), ([97], x)] = objV [[97], [98]] [x, y] := by
  show objV [[98], [97]] [y, x] = _
  have h1 : objB [[98], [97]] [y, x] = true := by
    rw [objB_iff]; exact ⟨rfl, by decide, by intro s hs; simp at hs; rcases hs with rfl | rfl <;> decide⟩
  have h2 : objB [[97], [98]] [x, y] = true := by
    rw [objB_iff]; exact ⟨rfl, by decide, by intro s hs; simp at hs; rcases hs with rfl | rfl <;> decide⟩
  have hr : rises [([97], x), ([98], y)] := by
    unfold rises
    simp
    decide
  unfold objV
  rw [if_pos h1, if_pos h2]
  rw [show ([[98], [97]] : List (List UInt8)).zip [y, x] = [([98], y), ([97], x)] from rfl, show ([[97], [98]] : List (List UInt8)).zip [x, y] = [([97], x), ([98], y)] from rfl]
  rw [srt_of (List.Perm.swap _ _ _) hr, srt_of (List.Perm.refl _) hr]
  rfl
end Tp
end Go.Proofs.YtafbojiojeemoaaGreatDoor

/-
  What the document's own answers List and named are.
-/
namespace Go.Proofs.YtafbojiojeemoaaGreatDoor
open Go.RowKit Np Rw Vp

theorem own_head (w : World) (E : Nat) (hE : E = 35) (k n : Nat) : OwnN w.heap.size (w.alloc (.cells #[.int .i64 (k : Int), .int .i64 (n : Int), .string ⟨#[]⟩, .string ⟨#[]⟩, .bool false, .int .i64 0] E)) (.slice (some ⟨w.heap.size, 0, none⟩) 1 1) [hdN k n] := by
  subst hE
  exact Own.lit (base := w.heap.size) ndc_len w _ [hdN k n] (Nat.le_refl _) (by unfold maxLen; simp) rfl

set_option maxRecDepth 100000 in
set_option maxHeartbeats 2000000 in
theorem refList_any (v : Value) (L : List (List Nd)) (w : World) (hv : Vls w v L) (hb1 : L.length ≤ 65536) (hb2 : (L.map List.length).sum ≤ 131072) :
    Calls Tryz.prog 19 #[v] w (OwnsN w (hdN 5 L.length :: L.flatten)) := by
  obtain ⟨us, hul, hu, hur⟩ := hv
  obtain ⟨A, c, rfl, -, -, -, H⟩ := hu
  have HUL := Lib.hid hul
  have HU := Lib.hid hur
  have HH := Lib.hid H
  have HB2 := Lib.hid hb2
  clear hur H hb2
  rw [← hul] at hb1
  clear hul
  generalize hn : us.length = n at *
  have HN := Lib.hid hn; clear hn
  have HO0 : Hid (OwnN w.heap.size (w.alloc (.cells #[.int .i64 5, .int .i64 (n : Int), .string ⟨#[]⟩, .string ⟨#[]⟩, .bool false, .int .i64 0] 35)) (.slice (some ⟨w.heap.size, 0, none⟩) 1 1) (hdN 5 L.length :: (L.take 0).flatten)) := Lib.hid (by rw [← HUL.out]; exact own_head w _ rfl 5 n)
  go_enter Tryz.func19, Tryz.ntmps19
  go_wp2_with fail
  go_loopw [3, 4] (fun vv i wr => ∃ k : Nat, k ≤ n ∧ i = .int .i64 k ∧ OwnN w.heap.size wr vv (hdN 5 L.length :: (L.take k).flatten) ∧ Below w.heap.size w wr) (fun _ i _ => n - (intOf i).toNat)
  case atStart => exact ⟨0, Nat.zero_le _, rfl, HO0.out, (Below.refl _ _).alloc (Nat.le_refl _) _⟩
  case round =>
    obtain ⟨j, hj, rfl, hown, hbw⟩ := hrel
    have HO := Lib.hid hown
    have HBW := Lib.hid hbw
    by_cases hlt2 : j < n
    · obtain ⟨g, o, rfl, hg, hx⟩ := HH.out (by omega)
      obtain ⟨x, hxk⟩ : ∃ a, us[j]? = some a := ⟨_, List.getElem?_eq_getElem (by rw [HN.out]; exact hlt2)⟩
      obtain ⟨a, ha⟩ : ∃ a, L[j]? = some a := ⟨_, List.getElem?_eq_getElem (by rw [← HUL.out]; exact hlt2)⟩
      have a0 := (hbw.cell (p := ⟨g, o + j, none⟩) hg).trans (hx j x hxk).one
      have HRA : Hid (Nds wr x a) := Lib.hid ((HU.out j x a hxk ha).below hbw)
      have HS : Hid (hdN 5 L.length :: (L.take (j + 1)).flatten = (hdN 5 L.length :: (L.take j).flatten) ++ a) := Lib.hid (by rw [List.take_add_one, ha]; simp)
      have HLN : Hid ((hdN 5 L.length :: (L.take j).flatten).length + a.length ≤ 131073) := Lib.hid (by
        have h1 := sum_take ha
        have h2 := sum_take_le L (j + 1)
        have h3 := HB2.out
        rw [List.length_cons, List.length_flatten]; omega)
      generalize hdN 5 L.length :: (L.take j).flatten = l1 at HO HS HLN
      clear ha hxk hx hown hbw
      go_wp2_with (at_builtin; refine wpList_append_row (base := w.heap.size) elNode rfl _ _ rfl rfl HO.out rfl HRA.out ?_ ?_ ?_ ?_)
      · have := HLN.out; unfold maxLen; omega
      · have := HLN.out; omega
      · exact HBW.out.size
      · intro A' c' w2 hown2 hg2 hwh
        clear hwh
        have HO2 : Hid (OwnN w.heap.size w2 (.slice A' (l1.length + a.length) c') (l1 ++ a)) := Lib.hid (by simpa using hown2)
        have HG2 := Lib.hid hg2
        clear hown2 hg2 a0
        generalize l1.length + a.length = q2 at HO2 ⊢
        go_wp2_with fail
        go_roundw
        case rel => exact ⟨j + 1, by omega, by go_num, by rw [HS.out]; exact HO2.out, HBW.out.trans (HO.out.kept HG2.out HBW.out.size)⟩
        case measure => simp [intOf]; omega
    · have HE : Hid (L.take j = L) := Lib.hid (List.take_of_length_le (by rw [← HUL.out]; omega))
      clear hown hbw
      go_wp2_with fail
      go_ret
      exact ⟨_, rfl, by have := HO.out; rwa [HE.out] at this, HBW.out⟩

set_option maxRecDepth 100000 in
set_option maxHeartbeats 4000000 in
theorem refNamed_any (v u : Value) (names : List (List UInt8)) (L : List (List Nd)) (w : World) (hv : Sts w v names) (hu : Vls w u L) (hl : names.length = L.length) (hb1 : L.length ≤ 65536) (hb2 : (L.map List.length).sum ≤ 131072) (hne : ∀ l ∈ L, l ≠ []) :
    Calls Tryz.prog 39 #[v, u] w (OwnsN w (hdN 6 L.length :: laid (names.zip L))) := by
  obtain ⟨us, hul, hu, hur⟩ := hu
  obtain ⟨A, c, rfl, -, -, -, H⟩ := hu
  obtain ⟨A0, c0, rfl, -, -, -, H0⟩ := hv
  have HUL := Lib.hid hul
  have HU := Lib.hid hur
  have HH := Lib.hid H
  have HH0 := Lib.hid H0
  have HB2 := Lib.hid hb2
  have HNE := Lib.hid hne
  have HLL := Lib.hid hl
  clear hur H hb2 hne H0
  rw [hl, ← hul]
  rw [← hul] at hb1
  clear hul hl
  generalize hn : us.length = n at *
  have HN := Lib.hid hn; clear hn
  have HO0 : Hid (OwnN w.heap.size (w.alloc (.cells #[.int .i64 6, .int .i64 (n : Int), .string ⟨#[]⟩, .string ⟨#[]⟩, .bool false, .int .i64 0] 35)) (.slice (some ⟨w.heap.size, 0, none⟩) 1 1) (hdN 6 n :: laid ((names.zip L).take 0))) := Lib.hid (own_head w _ rfl 6 n)
  go_enter Tryz.func39, Tryz.ntmps39
  go_wp2_with fail
  go_loopw [5, 6] (fun vv i wr => ∃ k : Nat, k ≤ n ∧ i = .int .i64 k ∧ OwnN w.heap.size wr vv (hdN 6 n :: laid ((names.zip L).take k)) ∧ Below w.heap.size w wr) (fun _ i _ => n - (intOf i).toNat)
  case atStart => exact ⟨0, Nat.zero_le _, rfl, HO0.out, (Below.refl _ _).alloc (Nat.le_refl _) _⟩
  case round =>
    obtain ⟨j, hj, rfl, hown, hbw⟩ := hrel
    have HO := Lib.hid hown
    have HBW := Lib.hid hbw
    by_cases hlt2 : j < n
    · obtain ⟨g, o, rfl, hg, hx⟩ := HH.out (by omega)
      obtain ⟨g0, o0, rfl, hg0, hx0⟩ := HH0.out (by rw [HLL.out, ← HUL.out]; omega)
      obtain ⟨x, hxk⟩ : ∃ a, us[j]? = some a := ⟨_, List.getElem?_eq_getElem (by rw [HN.out]; exact hlt2)⟩
      obtain ⟨nm, hnm⟩ : ∃ a, names[j]? = some a := ⟨_, List.getElem?_eq_getElem (by rw [HLL.out, ← HUL.out]; exact hlt2)⟩
      obtain ⟨a, ha⟩ : ∃ a, L[j]? = some a := ⟨_, List.getElem?_eq_getElem (by rw [← HUL.out]; exact hlt2)⟩
      have a0 := (hbw.cell (p := ⟨g, o + j, none⟩) hg).trans (hx j x hxk).one
      have HNC : Hid (w.cell? ⟨g0, o0 + j, none⟩ = some (.string ⟨nm.toArray⟩)) := Lib.hid (hx0 j nm hnm).st
      have HG0 := Lib.hid hg0
      obtain ⟨y, ys, hya⟩ : ∃ y ys, a = y :: ys := by
        cases a with
        | nil => exact absurd rfl (HNE.out [] (List.mem_of_getElem? ha))
        | cons y ys => exact ⟨y, ys, rfl⟩
      have HRA : Hid (Nds wr x a) := Lib.hid ((HU.out j x a hxk ha).below hbw)
      have HS : Hid (hdN 6 n :: laid ((names.zip L).take (j + 1)) = (hdN 6 n :: laid ((names.zip L).take j)) ++ setNm nm a) := Lib.hid (by
        have hz : (names.zip L)[j]? = some (nm, a) := by rw [List.getElem?_zip_eq_some]; exact ⟨hnm, ha⟩
        rw [List.take_add_one, hz]; simp [laid_snoc])
      have HLN : Hid ((hdN 6 n :: laid ((names.zip L).take j)).length + a.length ≤ 131073) := Lib.hid (by
        have h1 := sum_take ha
        have h2 := sum_take_le L (j + 1)
        have h3 := HB2.out
        have h4 : (((names.zip L).take j).map fun p : Pr => p.2.length).sum = ((L.take j).map List.length).sum := by
          have : ((names.zip L).take j).map (fun p : Pr => p.2.length) = (L.take j).map List.length := by
            rw [show (fun p : Pr => p.2.length) = List.length ∘ Prod.snd from rfl, ← List.map_map, List.map_take, List.map_snd_zip (by rw [HLL.out]; exact Nat.le_refl _)]
          rw [this]
        rw [List.length_cons, laid_len]; omega)
      generalize hdN 6 n :: laid ((names.zip L).take j) = l1 at HO HS HLN
      have HYA := Lib.hid hya
      have hapos : 0 < a.length := by rw [hya]; simp
      clear ha hxk hx hown hbw hnm hx0 hya
      obtain ⟨Ao, co, rfl, -⟩ := HO.out.form
      generalize hal : a.length = al at *
      have HAL := Lib.hid hal
      clear hal
      go_wp2_with (at_builtin; refine wpList_append_row (base := w.heap.size) elNode rfl _ _ rfl rfl HO.out rfl HRA.out ?_ ?_ ?_ ?_)
      · have := HLN.out; have := HAL.out; unfold maxLen; omega
      · have := HLN.out; have := HAL.out; omega
      · exact HBW.out.size
      · intro A' c' w2 hown2 hg2 hwh
        clear hwh
        rw [HAL.out]
        have HLA : Hid ((l1 ++ a).length = l1.length + al) := Lib.hid (by rw [List.length_append, HAL.out])
        have HO2 : Hid (OwnN w.heap.size w2 (.slice A' (l1 ++ a).length c') (l1 ++ a)) := Lib.hid (by simpa using hown2)
        have HB2' : Hid (Below w.heap.size w w2) := Lib.hid (HBW.out.trans (HO.out.kept hg2 HBW.out.size))
        clear hown2 hg2 a0
        obtain ⟨g', rfl, hc3, HG⟩ : ∃ g', A' = some ⟨g', 0, none⟩ ∧ l1.length + al ≤ c' ∧ Hid (w.heap.size ≤ g' ∧ g' < w2.heap.size) := by
          have h := HO2.out
          obtain ⟨g', cap, hv, h1, h2⟩ := h.opened (by rw [HLA.out]; omega)
          injection hv with e1 _ e3
          have := h.cap.2.1
          exact ⟨g', e1, by rw [← HLA.out]; exact this, Lib.hid ⟨h1, h2⟩⟩
        have hk0 : (l1 ++ a)[l1.length]? = some y := by rw [HYA.out]; simp
        have x0 := Own.cell ndc_len (j := 0) HO2.out hk0 rfl
        have x1 := Own.cell ndc_len (j := 1) HO2.out hk0 rfl
        have x2 := Own.cell ndc_len (j := 2) HO2.out hk0 rfl
        have x3 := Own.cell ndc_len (j := 3) HO2.out hk0 rfl
        have x4 := Own.cell ndc_len (j := 4) HO2.out hk0 rfl
        have x5 := Own.cell ndc_len (j := 5) HO2.out hk0 rfl
        simp only [Nat.add_zero] at x0
        have HTH : Hid (∀ ob : Obj, (w2.alloc ob).there g' (l1.length * 6) 6) := Lib.hid (fun ob => Own.there ndc_len (HO2.out.alloc ob) hk0)
        have HPU : Hid (∀ ob : Obj, OwnN w.heap.size ((w2.alloc ob).setCells g' (l1.length * 6) (ndc (nmN nm y))) (.slice (some ⟨g', 0, none⟩) (l1.length + al) c') (l1 ++ setNm nm a)) := Lib.hid (fun ob => by
          have h2 := Own.puts (y := nmN nm y) ndc_len (HO2.out.alloc ob) hk0
          rw [HLA.out] at h2
          have e : (l1 ++ a).set l1.length (nmN nm y) = l1 ++ setNm nm a := by rw [HYA.out, List.set_append_right _ _ (Nat.le_refl _)]; simp [setNm, nmN]
          rwa [e] at h2)
        have n0 := (HB2'.out.cell (p := ⟨g0, o0 + j, none⟩) HG0.out).trans HNC.out
        rw [HLA.out] at HO2
        clear hk0
        generalize hq : l1.length = q at *
        have HQ := Lib.hid hq
        clear hq
        have hqs : q ≤ 131073 := by have := HLN.out; omega
        have hqi : (q : Int) < q + al := by omega
        have hqn : q < q + al := by omega
        have hg02 : g0 < w2.heap.size := Nat.lt_of_lt_of_le HG0.out HB2'.out.size
        have hqi2 : (0 : Int) < al := by omega
        go_upto_region 9 with fail
        have HTH1 := Lib.hid (HTH.out (.cells #[.int .i64 y.kind, .int .i64 y.many, .string ⟨nm.toArray⟩, .string ⟨y.s.toArray⟩, .bool y.neg, .int .i64 y.e] 35))
        have HPU1 := Lib.hid (HPU.out (.cells #[.int .i64 y.kind, .int .i64 y.many, .string ⟨nm.toArray⟩, .string ⟨y.s.toArray⟩, .bool y.neg, .int .i64 y.e] 35))
        have HBA : Hid (Below w.heap.size w (w2.alloc (.cells #[.int .i64 y.kind, .int .i64 y.many, .string ⟨nm.toArray⟩, .string ⟨y.s.toArray⟩, .bool y.neg, .int .i64 y.e] 35))) := Lib.hid (HB2'.out.alloc HB2'.out.size _)
        have cB : (w2.alloc (.cells #[.int .i64 y.kind, .int .i64 y.many, .string ⟨nm.toArray⟩, .string ⟨y.s.toArray⟩, .bool y.neg, .int .i64 y.e] 35)).heap.size = w2.heap.size + 1 := by simp
        clear x0 x1 x2 x3 x4 x5 n0 cB
        go_wp2_with ((with_reducible refine wpList_store_node rfl _ _ rfl g' (q * 6) (nmN nm y) ?sx ?sy HTH1.out ?sz))
        case sx => simp [Act.eval]
        case sy => simp [Act.eval, nmN]
        all_goals
          go_roundw
          case rel => exact ⟨j + 1, by omega, by go_num, by rw [HS.out]; exact HPU1.out, Below.setCells HG.out.1 _ _ HBA.out⟩
          case measure => simp [intOf]; omega
    · have HE : Hid ((names.zip L).take j = names.zip L) := Lib.hid (List.take_of_length_le (by rw [List.length_zip, HLL.out, ← HUL.out]; omega))
      clear hown hbw
      go_wp2_with fail
      go_ret
      exact ⟨_, rfl, by have := HO.out; rwa [HE.out] at this, HBW.out⟩
end Go.Proofs.YtafbojiojeemoaaGreatDoor

/-
  How long a slice is. Of no function.
-/
namespace Go.Proofs.YtafbojiojeemoaaGreatDoor
open Go.RowKit
/-- How long a slice is. -/
def lenOf : Value → Nat
  | .slice _ n _ => n
  | _ => 0
end Go.Proofs.YtafbojiojeemoaaGreatDoor

/-
  Plain words: the places of names, the least one first, one by one. No program stands here.
-/
namespace Go.Proofs.YtafbojiojeemoaaGreatDoor
open Go.RowKit Np Rw Vp

/-- So far these have been chosen. -/
structure Sel (names : List (List UInt8)) (p : List Nat) : Prop where
  nodup : p.Nodup
  lt : ∀ i ∈ p, i < names.length
  strict : (p.map (atN names)).Pairwise (· < ·)
  vl : ∀ i ∈ p, vld (atN names i) = true
  low : ∀ i ∈ p, ∀ j, j < names.length → j ∉ p → ¬ atN names j < atN names i
/-- The least one of those that are left, among the first ones. -/
def Least (names : List (List UInt8)) (p : List Nat) (k b : Nat) : Prop := b < k ∧ b ∉ p ∧ ∀ j, j < k → j ∉ p → ¬ atN names j < atN names b
theorem Sel.nil (names : List (List UInt8)) : Sel names [] := ⟨List.nodup_nil, by simp, by simp, by simp, by simp⟩
theorem Least.keep {names : List (List UInt8)} {p : List Nat} {k b : Nat} (h : Least names p k b) (hk : k ∈ p ∨ ¬ atN names k < atN names b) : Least names p (k + 1) b := by
  refine ⟨by have := h.1; omega, h.2.1, fun j hj hjp => ?_⟩
  by_cases e : j = k
  · subst e
    rcases hk with hk | hk
    · exact absurd hk hjp
    · exact hk
  · exact h.2.2 j (by omega) hjp
theorem Least.less {names : List (List UInt8)} {p : List Nat} {k b : Nat} (h : Least names p k b) (hk : k ∉ p) (hl : atN names k < atN names b) : Least names p (k + 1) k := by
  refine ⟨by omega, hk, fun j hj hjp hlt => ?_⟩
  by_cases e : j = k
  · subst e; exact List.lt_irrefl _ hlt
  · exact h.2.2 j (by omega) hjp (List.lt_trans hlt hl)
theorem Least.first {names : List (List UInt8)} {p : List Nat} {k : Nat} (h : ∀ j, j < k → j ∈ p) (hk : k ∉ p) : Least names p (k + 1) k := by
  refine ⟨by omega, hk, fun j hj hjp hlt => ?_⟩
  by_cases e : j = k
  · subst e; exact List.lt_irrefl _ hlt
  · exact hjp (h j (by omega))
theorem pig : ∀ (n : Nat) (p : List Nat), p.Nodup → (∀ i ∈ p, i < n) → p.length ≤ n ∧ (p.length = n → ∀ j, j < n → j ∈ p)
  | 0, p, _, h => by
    have : p = [] := by
      cases p with
      | nil => rfl
      | cons a p => exact absurd (h a (by simp)) (by omega)
    subst this
    exact ⟨Nat.le_refl _, fun _ j hj => absurd hj (by omega)⟩
  | n + 1, p, hn, h => by
    by_cases hm : n ∈ p
    · have h1 := pig n (p.erase n) (hn.erase n) (fun i hi => by
        have h2 := (List.Nodup.mem_erase_iff hn).1 hi
        have := h i h2.2
        have := h2.1
        omega)
      have hl := List.length_erase_of_mem hm
      have hp : 0 < p.length := List.length_pos_of_mem hm
      refine ⟨by omega, fun he j hj => ?_⟩
      by_cases e : j = n
      · subst e; exact hm
      · exact List.mem_of_mem_erase (h1.2 (by omega) j (by omega))
    · have h1 := pig n p hn (fun i hi => by
        have := h i hi
        have : i ≠ n := fun e => hm (e ▸ hi)
        omega)
      exact ⟨by omega, fun he => absurd he (by omega)⟩
theorem Sel.len {names : List (List UInt8)} {p : List Nat} (h : Sel names p) : p.length ≤ names.length := (pig _ p h.nodup h.lt).1
theorem Sel.all {names : List (List UInt8)} {p : List Nat} (h : Sel names p) (hl : p.length = names.length) : p.Perm (List.range names.length) := by
  refine (List.perm_ext_iff_of_nodup h.nodup List.nodup_range).2 fun a => ⟨fun ha => by simpa using h.lt a ha, fun ha => (pig _ p h.nodup h.lt).2 hl a (by simpa using ha)⟩
theorem Sel.some {names : List (List UInt8)} {p : List Nat} (h : Sel names p) (hl : p.length < names.length) : ¬ ∀ j, j < names.length → j ∈ p := by
  intro hall
  have h1 : (List.range names.length).length ≤ p.length := by
    have hp : (List.range names.length).Perm (p.filter (fun i => decide (i < names.length))) := (List.perm_ext_iff_of_nodup List.nodup_range (h.nodup.filter _)).2 fun a => by
      simp only [List.mem_range, List.mem_filter, decide_eq_true_eq]
      exact ⟨fun ha => ⟨hall a ha, ha⟩, fun ha => ha.2⟩
    rw [hp.length_eq]
    exact List.length_filter_le _ _
  simp at h1
  omega
theorem Sel.places {names : List (List UInt8)} {p : List Nat} (h : Sel names p) (hl : p.length = names.length) : Places names p := by
  refine ⟨h.all hl, ?_⟩
  have := List.pairwise_map.1 h.strict
  exact this.imp fun {a b} hab hba => List.lt_irrefl _ (List.lt_trans hab hba)
theorem Sel.done {names : List (List UInt8)} {L : List (List Nd)} {p : List Nat} (h : Sel names p) (hl : p.length = names.length) (hL : names.length = L.length) :
    objB names L = true ∧ objV names L = hdN 6 L.length :: laid ((p.map (atN names)).zip (p.map (atL L))) := by
  have hp := h.places hl
  have hnd : names.Nodup := by
    have : (p.map (atN names)).Nodup := h.strict.imp fun {a b} hab (e : a = b) => by subst e; exact List.lt_irrefl a hab
    exact hp.names.nodup_iff.1 this
  have hb : objB names L = true := objB_iff.2 ⟨hL, hnd, fun s hs => by
    obtain ⟨i, hi, rfl⟩ := List.mem_map.1 (hp.names.mem_iff.2 hs)
    exact h.vl i hi⟩
  refine ⟨hb, ?_⟩
  rw [objV, if_pos hb, hp.pairs hL h.strict, List.zip_map']
theorem Sel.wrong {names : List (List UInt8)} {L : List (List Nd)} {b : Nat} (hb : b < names.length) (hv : vld (atN names b) = false) : objB names L = false := by
  cases h : objB names L
  · rfl
  · have := (objB_iff.1 h).2.2 (atN names b) (by rw [atN, List.getD_eq_getElem?_getD, List.getElem?_eq_getElem hb]; exact List.getElem_mem hb)
    rw [this] at hv; cases hv
theorem Sel.twice {names : List (List UInt8)} {L : List (List Nd)} {a b : Nat} (ha : a < names.length) (hb : b < names.length) (hne : a ≠ b) (he : atN names a = atN names b) : objB names L = false := by
  cases h : objB names L
  · rfl
  · have hn := (objB_iff.1 h).2.1
    have e1 : atN names a = names[a] := by rw [atN, List.getD_eq_getElem?_getD, List.getElem?_eq_getElem ha]; rfl
    have e2 : atN names b = names[b] := by rw [atN, List.getD_eq_getElem?_getD, List.getElem?_eq_getElem hb]; rfl
    rw [e1, e2] at he
    rcases Nat.lt_or_gt_of_ne hne with hlt | hlt
    · exact absurd he (List.pairwise_iff_getElem.1 hn a b ha hb hlt)
    · exact absurd he.symm (List.pairwise_iff_getElem.1 hn b a hb ha hlt)
theorem Sel.next {names : List (List UInt8)} {p : List Nat} {b : Nat} (h : Sel names p) (hb : Least names p names.length b) (hv : vld (atN names b) = true) (hne : ∀ q a, p = q ++ [a] → atN names a ≠ atN names b) : Sel names (p ++ [b]) := by
  obtain ⟨hb1, hb2, hb3⟩ := hb
  have hlast : ∀ i ∈ p, atN names i < atN names b := by
    rcases List.eq_nil_or_concat p with hp | ⟨q, a, hp⟩
    · subst hp; intro i hi; cases hi
    · rw [List.concat_eq_append] at hp
      have ha : atN names a < atN names b := lt_of_ne (h.low a (by rw [hp]; simp) b hb1 hb2) (hne q a hp)
      intro i hi
      rw [hp] at hi
      rcases List.mem_append.1 hi with hi | hi
      · have hs := h.strict
        rw [hp, List.map_append, List.pairwise_append] at hs
        exact List.lt_trans (hs.2.2 (atN names i) (List.mem_map_of_mem hi) (atN names a) (by simp)) ha
      · simp at hi; subst hi; exact ha
  refine ⟨?_, ?_, ?_, ?_, ?_⟩
  · rw [List.nodup_append]
    exact ⟨h.nodup, by simp, fun x hx y hy => by simp at hy; subst hy; exact fun e => hb2 (e ▸ hx)⟩
  · intro i hi
    rcases List.mem_append.1 hi with hi | hi
    · exact h.lt i hi
    · simp at hi; subst hi; exact hb1
  · rw [List.map_append, List.pairwise_append]
    refine ⟨h.strict, by simp, fun x hx y hy => ?_⟩
    obtain ⟨i, hi, rfl⟩ := List.mem_map.1 hx
    simp at hy; subst hy
    exact hlast i hi
  · intro i hi
    rcases List.mem_append.1 hi with hi | hi
    · exact h.vl i hi
    · simp at hi; subst hi; exact hv
  · intro i hi j hj hjp
    have hjp' : j ∉ p := fun hh => hjp (by simp [hh])
    rcases List.mem_append.1 hi with hi | hi
    · exact h.low i hi j hj hjp'
    · simp at hi; subst hi; exact hb3 j hj hjp'
end Go.Proofs.YtafbojiojeemoaaGreatDoor

/-
  What the document's own answer Object is.
-/
namespace Go.Proofs.YtafbojiojeemoaaGreatDoor
open Go.RowKit Np Rw Vp

def boc (b : Bool) : List Value := [.bool b]
theorem boc_len (b : Bool) : (boc b).length = 1 := rfl
theorem bool_info : (Tryz.prog.info? 4).map (fun i => (i.zero, i.size, i.bytes)) = some (some (.bool false), 1, 1) := by kernel_rfl
theorem make_bools (n : Nat) (hn : n ≤ 1000000) (w : World) : (Instr.makeSlice 71 (.int .i64 (n : Int)) (.int .i64 (n : Int))).run Tryz.prog w = .ok (.slice (some ⟨w.heap.size, 0, none⟩) n n) (w.alloc (.cells (madeCells #[.bool false] n) 4)) := by
  obtain ⟨i, hi, hz0, hz1, hz2⟩ := info_parts bool_info
  have := run_make (P := Tryz.prog) w 71 4 i _ Tryz.underlying71 hi hz0 .i64 .i64 n n (by omega) (by omega) (by rw [hz2]; omega) (by omega)
  rw [hz1, Int.toNat_natCast, Nat.mul_one] at this
  exact this
/-- Which places have been chosen. -/
def marks (n : Nat) (p : List Nat) : List Bool := (List.range n).map fun i => decide (i ∈ p)
theorem marks_len (n : Nat) (p : List Nat) : (marks n p).length = n := by simp [marks]
theorem marks_nil (n : Nat) : marks n [] = List.replicate n false := by apply List.ext_getElem <;> simp [marks]
theorem marks_at {n k : Nat} (p : List Nat) (h : k < n) : (marks n p)[k]? = some (decide (k ∈ p)) := by simp [marks, h]
theorem marks_set (n b : Nat) (p : List Nat) : (marks n p).set b true = marks n (p ++ [b]) := by
  apply List.ext_getElem
  · simp [marks]
  · intro i h1 h2
    simp only [marks, List.getElem_set, List.getElem_map, List.getElem_range, List.mem_append, List.mem_singleton]
    by_cases e : b = i
    · subst e; simp
    · rw [if_neg e]
      rw [decide_eq_decide]
      exact ⟨fun h => .inl h, fun h => h.elim id (fun h => absurd h.symm e)⟩

set_option maxRecDepth 100000 in
set_option maxHeartbeats 8000000 in
theorem refObject_any (v u : Value) (names : List (List UInt8)) (L : List (List Nd)) (w : World) (hv : Sts w v names) (hu : Vls w u L) (hn : names.length ≤ 1000) (hb2 : (L.map List.length).sum ≤ 131072) (hsh : ∀ s ∈ names, s.length ≤ maxLen) (hne : ∀ l ∈ L, l ≠ []) :
    Calls Tryz.prog 18 #[v, u] w (GivesO w names L) := by
  have HSH := Lib.hid hsh
  have HNE := Lib.hid hne
  have HB2 := Lib.hid hb2
  clear hsh hne hb2
  obtain ⟨zs, hels, hrow⟩ := vls_els hu
  obtain ⟨A, c, rfl, hc, hcm, -, H⟩ := hv
  obtain ⟨A2, c2, rfl, hc2, hcm2, -, H2⟩ := hrow
  have hzl := hels.1
  by_cases hl : names.length = L.length
  · have HE := Lib.hid hels
    rw [hzl, ← hl] at H2 hc2 ⊢
    have HH := Lib.hid H
    have HH2 := Lib.hid H2
    have HL := Lib.hid hl
    have HZL := Lib.hid hzl
    clear hu hels H H2 hl hzl
    have hmk := fun (W : World) => make_bools names.length (by omega) W
    generalize hnn : names.length = n at *
    have HN := Lib.hid hnn; clear hnn
    have HMK := Lib.hid hmk; clear hmk
    go_enter Tryz.func18, Tryz.ntmps18
    have hmk := HMK.out ((w.alloc (.cells #[] 9)).alloc (.cells #[] 24))
    simp only [World.size_alloc] at hmk
    have HS0 : Hid (Own stc 1 9 w.heap.size ((w.alloc (.cells #[] 9)).alloc (.cells #[] 24)) (.slice (some ⟨w.heap.size, 0, none⟩) 0 0) []) := Lib.hid ((Own.lit (base := w.heap.size) (E := 9) stc_len w #[] [] (Nat.le_refl _) (by simp) rfl).alloc _)
    have HZ0 : Hid (Own slc 1 24 w.heap.size ((w.alloc (.cells #[] 9)).alloc (.cells #[] 24)) (.slice (some ⟨w.heap.size + 1, 0, none⟩) 0 0) []) := Lib.hid (by
      have := Own.lit (base := w.heap.size) (E := 24) slc_len (w.alloc (.cells #[] 9)) #[] [] (by simp) (by simp) rfl
      simpa using this)
    have HM0 : Hid (Own boc 1 4 w.heap.size (((w.alloc (.cells #[] 9)).alloc (.cells #[] 24)).alloc (.cells (madeCells #[.bool false] n) 4)) (.slice (some ⟨w.heap.size + 1 + 1, 0, none⟩) n n) (marks n [])) := Lib.hid (by
      rw [marks_nil]
      have := Own.made1 (E := 4) (base := w.heap.size) boc_len ((w.alloc (.cells #[] 9)).alloc (.cells #[] 24)) false (.bool false) rfl n (by unfold maxLen; omega) (by simp; omega)
      simpa using this)
    go_wp2_with fail
    generalize madeCells #[Value.bool false] n = cs at HM0 ⊢
    go_loopw [6, 7] (fun sv zv wr => ∃ (p : List Nat), Sel names p ∧ (∃ As cs, sv = .slice As p.length cs) ∧ Own stc 1 9 w.heap.size wr sv (p.map (atN names)) ∧ Own slc 1 24 w.heap.size wr zv (p.map fun j => zs.getD j (none, 0, 0)) ∧ Own boc 1 4 w.heap.size wr (.slice (some ⟨w.heap.size + 1 + 1, 0, none⟩) n n) (marks n p) ∧ Below w.heap.size w wr) (fun sv _ _ => n - lenOf sv)
    case atStart => exact ⟨[], Sel.nil _, ⟨_, _, rfl⟩, HS0.out.alloc _, HZ0.out.alloc _, HM0.out, (((Below.refl _ _).alloc (Nat.le_refl _) _).alloc (by simp) _).alloc (by simp; omega) _⟩
    case round =>
      obtain ⟨p, hsel, ⟨As, cs', rfl⟩, hs, hz, hm, hb⟩ := hrel
      have HSEL := Lib.hid hsel
      have HS := Lib.hid hs
      have HZ := Lib.hid hz
      have HM := Lib.hid hm
      have HB := Lib.hid hb
      have hpl : p.length ≤ n := by have := hsel.len; rwa [HN.out] at this
      clear hsel hs hz hm hb
      by_cases hlt : p.length < n
      · obtain ⟨wo, rfl⟩ : ∃ wo : World, wo = wr := ⟨_, rfl⟩
        obtain ⟨g, o, rfl, hg, hx⟩ := HH.out (by omega)
        have HX := Lib.hid hx
        clear hx
        go_wp2_with fail
        go_loopw [9, 10] (fun bv iv wr => ∃ k : Nat, k ≤ n ∧ iv = .int .i64 k ∧ (∃ q, wr = wo.drewN q) ∧ ((bv = .int .i64 (-1) ∧ ∀ j, j < k → j ∈ p) ∨ ∃ b : Nat, bv = .int .i64 b ∧ Least names p k b)) (fun _ iv _ => n - (intOf iv).toNat)
        case atStart => exact ⟨0, Nat.zero_le _, rfl, ⟨0, rfl⟩, .inl ⟨rfl, fun j h => absurd h (by omega)⟩⟩
        case round =>
          obtain ⟨k, hk, rfl, hq, hbest⟩ := hrel
          have HQ := Lib.hid hq
          clear hq
          by_cases hkn : k < n
          · have hkx : names[k]? = some (atN names k) := by rw [atN, List.getD_eq_getElem?_getD, List.getElem?_eq_getElem (by rw [HN.out]; exact hkn)]; rfl
            have m0 : wr.cell? ⟨w.heap.size + 1 + 1, k, none⟩ = some (.bool (decide (k ∈ p))) := by
              have hm' : Own boc 1 4 w.heap.size wo (.slice (some ⟨w.heap.size + 1 + 1, 0, none⟩) (marks n p).length n) (marks n p) := by rw [marks_len]; exact HM.out
              have := cell_quiet (Own.cell boc_len (j := 0) hm' (marks_at p hkn) rfl) HQ.out
              simpa using this
            have n0 : wr.cell? ⟨g, o + k, none⟩ = some (.string ⟨(atN names k).toArray⟩) := cell_quiet ((HB.out.cell (p := ⟨g, o + k, none⟩) hg).trans (HX.out k _ hkx).st) HQ.out
            have hkI : (k : Int) < n := by omega
            clear hkx
            generalize hans : atN names k = nk at n0
            have HNK := Lib.hid hans
            clear hans
            rcases hbest with ⟨rfl, hall⟩ | ⟨b, rfl, hle⟩
            · have HALLP := Lib.hid hall
              clear hall
              by_cases hkp : k ∈ p
              · rw [decide_eq_true hkp] at m0
                have HKP := Lib.hid hkp
                clear hkp
                go_wp2_with fail
                go_quiet (fail)
                go_wp2_with fail
                go_roundw
                case rel => exact ⟨k + 1, by omega, by go_num, quiet_more HQ.out _, .inl ⟨rfl, fun j hj => if e : j = k then e ▸ HKP.out else HALLP.out j (by omega)⟩⟩
                case measure => simp [intOf]; omega
              · rw [decide_eq_false hkp] at m0
                have HKP := Lib.hid hkp
                clear hkp
                go_wp2_with fail
                go_quiet (fail)
                go_wp2_with fail
                go_roundw
                case rel => exact ⟨k + 1, by omega, by go_num, quiet_more HQ.out _, .inr ⟨k, rfl, Least.first HALLP.out HKP.out⟩⟩
                case measure => simp [intOf]; omega
            · have HLE := Lib.hid hle
              have hbk : b < k := hle.1
              clear hle
              have hb0 : decide ((b : Int) < 0) = false := by simp
              by_cases hkp : k ∈ p
              · rw [decide_eq_true hkp] at m0
                have HKP := Lib.hid hkp
                clear hkp
                go_wp2_with fail
                go_quiet (fail)
                go_wp2_with fail
                go_roundw
                case rel => exact ⟨k + 1, by omega, by go_num, quiet_more HQ.out _, .inr ⟨b, rfl, HLE.out.keep (.inl HKP.out)⟩⟩
                case measure => simp [intOf]; omega
              · rw [decide_eq_false hkp] at m0
                have HKP := Lib.hid hkp
                clear hkp
                have hbx : names[b]? = some (atN names b) := by rw [atN, List.getD_eq_getElem?_getD, List.getElem?_eq_getElem (by rw [HN.out]; omega)]; rfl
                have n1 : wr.cell? ⟨g, o + b, none⟩ = some (.string ⟨(atN names b).toArray⟩) := cell_quiet ((HB.out.cell (p := ⟨g, o + b, none⟩) hg).trans (HX.out b _ hbx).st) HQ.out
                have hbI : (b : Int) < n := by omega
                have hbn : b < n := by omega
                clear hbx
                generalize hanb : atN names b = nb at n1
                have HNB := Lib.hid hanb
                clear hanb
                by_cases hlx : nk < nb
                · have hbl : Op.bytesLess nk nb = true := by rw [bytesLess_eq]; simp [hlx]
                  have HLX := Lib.hid hlx
                  clear hlx
                  go_wp2_with fail
                  go_quiet (fail)
                  go_wp2_with fail
                  go_roundw
                  case rel => exact ⟨k + 1, by omega, by go_num, quiet_more HQ.out _, .inr ⟨k, rfl, HLE.out.less HKP.out (by rw [HNK.out, HNB.out]; exact HLX.out)⟩⟩
                  case measure => simp [intOf]; omega
                · have hbl : Op.bytesLess nk nb = false := by rw [bytesLess_eq]; simp [hlx]
                  have HLX := Lib.hid hlx
                  clear hlx
                  go_wp2_with fail
                  go_quiet (fail)
                  go_wp2_with fail
                  go_roundw
                  case rel => exact ⟨k + 1, by omega, by go_num, quiet_more HQ.out _, .inr ⟨b, rfl, HLE.out.keep (.inr (by rw [HNK.out, HNB.out]; exact HLX.out))⟩⟩
                  case measure => simp [intOf]; omega
          · have hke : k = n := by omega
            subst hke
            rcases hbest with ⟨-, hall⟩ | ⟨b, rfl, hle⟩
            · exact absurd (fun j hj => hall j (by rw [← HN.out]; exact hj)) (HSEL.out.some (by rw [HN.out]; exact hlt))
            · obtain ⟨wi, rfl⟩ : ∃ wi : World, wi = wr := ⟨_, rfl⟩
              have HLE := Lib.hid hle
              have hbn : b < k := hle.1
              clear hle
              have hbI : (b : Int) < k := by omega
              have hbI0 : ¬ (b : Int) < 0 := by omega
              have hbx : names[b]? = some (atN names b) := by rw [atN, List.getD_eq_getElem?_getD, List.getElem?_eq_getElem (by rw [HN.out]; exact hbn)]; rfl
              have HSN : Hid ((ByteArray.mk (atN names b).toArray).size ≤ maxLen) := Lib.hid (HSH.out _ (List.mem_of_getElem? hbx))
              have HNW : Hid (w.cell? ⟨g, o + b, none⟩ = some (.string ⟨(atN names b).toArray⟩)) := Lib.hid (HX.out b _ hbx).st
              obtain ⟨g2, o2, rfl, hg2, hx2⟩ := HH2.out (by omega)
              obtain ⟨zb, hzb⟩ : ∃ a, zs[b]? = some a := ⟨_, List.getElem?_eq_getElem (by rw [HZL.out, ← HL.out]; exact hbn)⟩
              have HZW : Hid (w.cell? ⟨g2, o2 + b, none⟩ = some (.slice zb.1 zb.2.1 zb.2.2)) := Lib.hid (hx2 b zb hzb).one
              have HZB : Hid (zs.getD b (none, 0, 0) = zb) := Lib.hid (by rw [List.getD_eq_getElem?_getD, hzb]; rfl)
              have HBI : Hid (Below w.heap.size w wi) := Lib.hid (HB.out.trans ((below_quiet HQ.out).mono HB.out.size))
              have HSI := Lib.hid (HS.out.below (below_quiet HQ.out))
              have HZI := Lib.hid (HZ.out.below (below_quiet HQ.out))
              have HMI := Lib.hid (HM.out.below (below_quiet HQ.out))
              have n1 := (HBI.out.cell (p := ⟨g, o + b, none⟩) hg).trans HNW.out
              have HMI' : Hid (Own boc 1 4 w.heap.size wi (.slice (some ⟨w.heap.size + 1 + 1, 0, none⟩) (marks k p).length k) (marks k p)) := Lib.hid (by rw [marks_len]; exact HMI.out)
              have m1 : wi.cell? ⟨w.heap.size + 1 + 1, b, none⟩ = some (.bool (decide (b ∈ p))) := by
                have := Own.cell boc_len (j := 0) HMI'.out (marks_at p hbn) rfl
                simpa using this
              have f1 : wi.frozen? ⟨w.heap.size + 1 + 1, b, none⟩ = false := HMI'.out.free b
              have HALLW : Hid (∀ m W', (wi.drewN m).setCell ⟨w.heap.size + 1 + 1, b, none⟩ (.bool true) = W' → Own stc 1 9 w.heap.size W' (.slice As p.length cs') (p.map (atN names)) ∧ Own slc 1 24 w.heap.size W' u7 (p.map fun j => zs.getD j (none, 0, 0)) ∧ Own boc 1 4 w.heap.size W' (.slice (some ⟨w.heap.size + 1 + 1, 0, none⟩) k k) (marks k (p ++ [b])) ∧ Below w.heap.size w W') := Lib.hid (fun m W' hW' => by
                subst hW'
                have hgr : (wi.drewN m).grownBy ((wi.drewN m).setCell ⟨w.heap.size + 1 + 1, b, none⟩ (.bool true)) (Value.slice (some ⟨w.heap.size + 1 + 1, 0, none⟩) k k).ownBlock := grown_set (World.grownBy.refl _ _) (.inl rfl) _
                have hmm : Own boc 1 4 w.heap.size (wi.drewN m) (.slice (some ⟨w.heap.size + 1 + 1, 0, none⟩) k k) (marks k p) := HMI.out.drewN m
                refine ⟨Own.aside (HSI.out.drewN m) hmm (by decide) hgr, Own.aside (HZI.out.drewN m) hmm (by decide) hgr, ?_, (drewN_below HBI.out m).setCell (by show w.heap.size ≤ w.heap.size + 1 + 1; omega) _⟩
                have h := Own.put boc_len (j := 0) (y := true) (u := .bool true) (HMI'.out.drewN m) (marks_at p hbn) (by decide) rfl
                rw [marks_set, marks_len] at h
                simpa using h)
              have HTW : Hid (∀ a, a ∈ p → atN names a = atN names b → objB names L = false) := Lib.hid (fun a ha he => Sel.twice (HSEL.out.lt a ha) (by rw [HN.out]; exact hbn) (fun (e : a = b) => HLE.out.2.1 (by rw [← e]; exact ha)) he)
              have HWR : Hid (vld (atN names b) = false → objB names L = false) := Lib.hid (fun h => Sel.wrong (by rw [HN.out]; exact hbn) h)
              have HNX : Hid (vld (atN names b) = true → (∀ q a, p = q ++ [a] → atN names a ≠ atN names b) → Sel names (p ++ [b])) := Lib.hid (fun h1 h2 => HSEL.out.next (by rw [HN.out]; exact HLE.out) h1 h2)
              clear hbx hzb hx2
              generalize hans : atN names b = nb at n1 HSN HNW HTW HWR HNX
              have HNB := Lib.hid hans
              clear hans
              cases hvl : vld nb with
              | false =>
                have HC : Hid (∀ m, Calls Tryz.prog 38 #[.string ⟨nb.toArray⟩] (wi.drewN m) fun e w' => e = .returned (.bool false) ∧ w' = wi.drewN m) := Lib.hid fun m => (refUtf_any ⟨nb.toArray⟩ _ HSN.out).mono fun _ _ ⟨h1, h2⟩ => ⟨by rw [h1, ← hvl], h2.symm⟩
                have HBAD := Lib.hid (HWR.out hvl)
                clear hvl
                go_wp2_with fail
                go_quiet ((go_at_call 38; exact Calls.quiet_of_same (HC.out _)))
                go_wp2_with fail
                go_ret2
                exact GivesO.bad HBAD.out rfl (drewN_below HBI.out _)
              | true =>
                have HC : Hid (∀ m, Calls Tryz.prog 38 #[.string ⟨nb.toArray⟩] (wi.drewN m) fun e w' => e = .returned (.bool true) ∧ w' = wi.drewN m) := Lib.hid fun m => (refUtf_any ⟨nb.toArray⟩ _ HSN.out).mono fun _ _ ⟨h1, h2⟩ => ⟨by rw [h1, ← hvl], h2.symm⟩
                have HV := Lib.hid hvl
                clear hvl
                rcases List.eq_nil_or_concat p with hp | ⟨q, a, hp⟩
                · have HNEXT := Lib.hid (HNX.out HV.out (fun q a e => by rw [hp] at e; exact absurd e (by simp)))
                  have hp0 : p.length = 0 := by rw [hp]; rfl
                  have g0 : decide ((0 : Int) < p.length) = false := by simp; omega
                  have g1 : decide (0 < p.length) = false := by simp; omega
                  clear hp hp0
                  go_wp2_with fail
                  go_quiet ((go_at_call 38; exact Calls.quiet_of_same (HC.out _)))
                  go_upto_region 16 with fail
                  generalize hW : World.setCell (World.drewN wi _) _ _ = W3
                  obtain ⟨hs3, hz3, hm3, hb3⟩ := HALLW.out _ _ hW
                  have n3 := (hb3.cell (p := ⟨g, o + b, none⟩) hg).trans HNW.out
                  have HS3 := Lib.hid hs3
                  have HZ3 := Lib.hid hz3
                  have HM3 := Lib.hid hm3
                  have HB3 := Lib.hid hb3
                  clear hs3 hz3 hm3 hb3 hW m1 f1 n1
                  go_wp2_with (at_builtin; refine wpList_append_row (base := w.heap.size) elText rfl _ _ rfl rfl (HS3.out.alloc _) rfl (row_one stc_len W3 _ rfl 9 #[.string ⟨nb.toArray⟩] nb rfl) ?_ ?_ ?_ ?_)
                  · unfold maxLen; simp; omega
                  · simp; omega
                  · have := HB3.out.size; simp; omega
                  · intro A4 c4 w4 hown4 hg4 hwh
                    clear hwh
                    have HS4 : Hid (Own stc 1 9 w.heap.size w4 (.slice A4 (p.length + 1) c4) ((p ++ [b]).map (atN names))) := Lib.hid (by rw [List.map_append]; show Own _ _ _ _ _ _ (p.map (atN names) ++ [atN names b]); rw [HNB.out]; simpa using hown4)
                    have HZ4 := Lib.hid (Own.aside (HZ3.out.alloc _) (HS3.out.alloc _) (by decide) hg4)
                    have HM4 := Lib.hid (Own.aside (HM3.out.alloc _) (HS3.out.alloc _) (by decide) hg4)
                    have HB4 : Hid (Below w.heap.size w w4) := Lib.hid ((HB3.out.alloc HB3.out.size _).trans ((HS3.out.alloc _).kept hg4 (by have := HB3.out.size; simp; omega)))
                    clear hown4 hg4 n3
                    have z4 := (HB4.out.cell (p := ⟨g2, o2 + b, none⟩) hg2).trans HZW.out
                    try simp only [List.length_map]
                    go_wp2_with (at_builtin; refine wpList_append_row (base := w.heap.size) elVal rfl _ _ rfl rfl (HZ4.out.alloc _) rfl (row_one slc_len w4 _ rfl 24 #[.slice zb.1 zb.2.1 zb.2.2] zb rfl) ?_ ?_ ?_ ?_)
                    · unfold maxLen; simp; omega
                    · simp; omega
                    · have := HB4.out.size; simp; omega
                    · intro A5 c5 w5 hown5 hg5 hwh
                      clear hwh
                      have HZ5 : Hid (Own slc 1 24 w.heap.size w5 (.slice A5 (p.length + 1) c5) ((p ++ [b]).map fun j => zs.getD j (none, 0, 0))) := Lib.hid (by rw [List.map_append]; show Own _ _ _ _ _ _ ((p.map fun j => zs.getD j (none, 0, 0)) ++ [zs.getD b (none, 0, 0)]); rw [HZB.out]; simpa using hown5)
                      have HS5 := Lib.hid (Own.aside (HS4.out.alloc _) (HZ4.out.alloc _) (by decide) hg5)
                      have HM5 := Lib.hid (Own.aside (HM4.out.alloc _) (HZ4.out.alloc _) (by decide) hg5)
                      have HB5 : Hid (Below w.heap.size w w5) := Lib.hid ((HB4.out.alloc HB4.out.size _).trans ((HZ4.out.alloc _).kept hg5 (by have := HB4.out.size; simp; omega)))
                      clear hown5 hg5 z4
                      try simp only [List.length_map]
                      go_wp2_with fail
                      go_roundw
                      case rel => exact ⟨p ++ [b], HNEXT.out, ⟨A4, c4, by simp⟩, HS5.out, HZ5.out, HM5.out, HB5.out⟩
                      case measure => simp [lenOf]; omega
                · rw [List.concat_eq_append] at hp
                  have hpq : p.length = q.length + 1 := by rw [hp]; simp
                  have hin : a ∈ p := by rw [hp]; simp
                  obtain ⟨gs, cap, hform, -, -⟩ := HSI.out.opened (by rw [List.length_map]; omega)
                  injection hform with e1 e2 e3
                  clear e2
                  subst e1
                  subst e3
                  have s1 : wi.cell? ⟨gs, q.length, none⟩ = some (.string ⟨(atN names a).toArray⟩) := by
                    have h' : Own stc 1 9 w.heap.size wi (.slice (some ⟨gs, 0, none⟩) (p.map (atN names)).length cs') (p.map (atN names)) := by rw [List.length_map]; exact HSI.out
                    have := Own.cell stc_len (k := q.length) (x := atN names a) (j := 0) h' (by rw [hp]; simp) rfl
                    simpa using this
                  have g0 : decide ((0 : Int) < p.length) = true := by simp; omega
                  have g1 : decide (0 < p.length) = true := by simp; omega
                  have hw1 : IntKind.i64.wrap ((p.length : Int) - 1) = (q.length : Int) := (IntWalk.i64_in _ (by omega)).trans (by omega)
                  have hqi : (q.length : Int) < p.length := by omega
                  have hqn : q.length < p.length := by omega
                  have HPQ := Lib.hid hp
                  clear hp hpq
                  generalize hans : atN names a = na at s1
                  have HNA := Lib.hid hans
                  clear hans
                  have HIN := Lib.hid hin
                  clear hin
                  generalize q.length = ql at *
                  by_cases he : na = nb
                  · have HBAD := Lib.hid (HTW.out a HIN.out (HNA.out.trans he))
                    subst he
                    go_wp2_with fail
                    go_quiet ((go_at_call 38; exact Calls.quiet_of_same (HC.out _)))
                    go_wp2_with fail
                    go_ret2
                    exact GivesO.bad HBAD.out rfl (drewN_below HBI.out _)
                  · have hne : (na == nb) = false := by simp [he]
                    have HNEXT := Lib.hid (HNX.out HV.out (fun q' a' e => by
                      have e2 := HPQ.out.symm.trans e
                      have e3 := (List.append_inj' e2 rfl).2
                      injection e3 with e4 _
                      rw [← e4, HNA.out]; exact he))
                    clear he
                    go_wp2_with fail
                    go_quiet ((go_at_call 38; exact Calls.quiet_of_same (HC.out _)))
                    go_upto_region 16 with fail
                    generalize hW : World.setCell (World.drewN wi _) _ _ = W3
                    obtain ⟨hs3, hz3, hm3, hb3⟩ := HALLW.out _ _ hW
                    have n3 := (hb3.cell (p := ⟨g, o + b, none⟩) hg).trans HNW.out
                    have HS3 := Lib.hid hs3
                    have HZ3 := Lib.hid hz3
                    have HM3 := Lib.hid hm3
                    have HB3 := Lib.hid hb3
                    clear hs3 hz3 hm3 hb3 hW m1 f1 n1
                    go_wp2_with (at_builtin; refine wpList_append_row (base := w.heap.size) elText rfl _ _ rfl rfl (HS3.out.alloc _) rfl (row_one stc_len W3 _ rfl 9 #[.string ⟨nb.toArray⟩] nb rfl) ?_ ?_ ?_ ?_)
                    · unfold maxLen; simp; omega
                    · simp; omega
                    · have := HB3.out.size; simp; omega
                    · intro A4 c4 w4 hown4 hg4 hwh
                      clear hwh
                      have HS4 : Hid (Own stc 1 9 w.heap.size w4 (.slice A4 (p.length + 1) c4) ((p ++ [b]).map (atN names))) := Lib.hid (by rw [List.map_append]; show Own _ _ _ _ _ _ (p.map (atN names) ++ [atN names b]); rw [HNB.out]; simpa using hown4)
                      have HZ4 := Lib.hid (Own.aside (HZ3.out.alloc _) (HS3.out.alloc _) (by decide) hg4)
                      have HM4 := Lib.hid (Own.aside (HM3.out.alloc _) (HS3.out.alloc _) (by decide) hg4)
                      have HB4 : Hid (Below w.heap.size w w4) := Lib.hid ((HB3.out.alloc HB3.out.size _).trans ((HS3.out.alloc _).kept hg4 (by have := HB3.out.size; simp; omega)))
                      clear hown4 hg4 n3
                      have z4 := (HB4.out.cell (p := ⟨g2, o2 + b, none⟩) hg2).trans HZW.out
                      try simp only [List.length_map]
                      go_wp2_with (at_builtin; refine wpList_append_row (base := w.heap.size) elVal rfl _ _ rfl rfl (HZ4.out.alloc _) rfl (row_one slc_len w4 _ rfl 24 #[.slice zb.1 zb.2.1 zb.2.2] zb rfl) ?_ ?_ ?_ ?_)
                      · unfold maxLen; simp; omega
                      · simp; omega
                      · have := HB4.out.size; simp; omega
                      · intro A5 c5 w5 hown5 hg5 hwh
                        clear hwh
                        have HZ5 : Hid (Own slc 1 24 w.heap.size w5 (.slice A5 (p.length + 1) c5) ((p ++ [b]).map fun j => zs.getD j (none, 0, 0))) := Lib.hid (by rw [List.map_append]; show Own _ _ _ _ _ _ ((p.map fun j => zs.getD j (none, 0, 0)) ++ [zs.getD b (none, 0, 0)]); rw [HZB.out]; simpa using hown5)
                        have HS5 := Lib.hid (Own.aside (HS4.out.alloc _) (HZ4.out.alloc _) (by decide) hg5)
                        have HM5 := Lib.hid (Own.aside (HM4.out.alloc _) (HZ4.out.alloc _) (by decide) hg5)
                        have HB5 : Hid (Below w.heap.size w w5) := Lib.hid ((HB4.out.alloc HB4.out.size _).trans ((HZ4.out.alloc _).kept hg5 (by have := HB4.out.size; simp; omega)))
                        clear hown5 hg5 z4
                        try simp only [List.length_map]
                        go_wp2_with fail
                        go_roundw
                        case rel => exact ⟨p ++ [b], HNEXT.out, ⟨A4, c4, by simp⟩, HS5.out, HZ5.out, HM5.out, HB5.out⟩
                        case measure => simp [lenOf]; omega
      · have hpe : p.length = n := by omega
        obtain ⟨wo, rfl⟩ : ∃ wo : World, wo = wr := ⟨_, rfl⟩
        have HD := Lib.hid (HSEL.out.done (L := L) (by rw [HN.out]; exact hpe) (by rw [HN.out]; exact HL.out))
        have hpl2 := HSEL.out.places (by rw [HN.out]; exact hpe)
        have hnl : names.length = L.length := by rw [HN.out]; exact HL.out
        have HS1 : Hid (Sts wo (.slice As p.length cs') (p.map (atN names))) := Lib.hid (HS.out.row stc_len)
        have HZ1 := Lib.hid (HZ.out.row slc_len)
        have HV1 : Hid (Vls wo u7 (p.map (atL L))) := Lib.hid (Els.vls ⟨by simp, fun k z l hz hl => by
          rw [List.getElem?_map] at hz hl
          cases hi : p[k]? with
          | none => rw [hi] at hz; cases hz
          | some i =>
            rw [hi] at hz hl
            injection hz with hz
            injection hl with hl
            have hin := HSEL.out.lt i (List.mem_of_getElem? hi)
            have hx := HE.out.2 i z l (by rw [← hz]; show zs[i]? = some (zs.getD i (none, 0, 0)); rw [List.getD_eq_getElem?_getD, List.getElem?_eq_getElem (by rw [HE.out.1, ← hnl]; exact hin)]; rfl) (by rw [← hl]; show L[i]? = some (L.getD i []); rw [List.getD_eq_getElem?_getD, List.getElem?_eq_getElem (by rw [← hnl]; exact hin)]; rfl)
            exact hx.below HB.out⟩ HZ1.out)
        have hq1 : (p.map (atN names)).length = (p.map (atL L)).length := by simp
        have hq2 : (p.map (atL L)).length ≤ 65536 := by rw [List.length_map]; omega
        have hq3 : ((p.map (atL L)).map List.length).sum ≤ 131072 := by
          rw [List.map_map]
          have := hpl2.sum (L := L) hnl
          have h2 := HB2.out
          exact Nat.le_trans (Nat.le_of_eq this) h2
        have hq4 : ∀ l ∈ p.map (atL L), l ≠ [] := fun l hl => by
          obtain ⟨i, hi, rfl⟩ := List.mem_map.1 hl
          have hin := HSEL.out.lt i hi
          refine HNE.out _ ?_
          rw [atL, List.getD_eq_getElem?_getD, List.getElem?_eq_getElem (by rw [← hnl]; exact hin)]
          exact List.getElem_mem _
        have HQ := Lib.hid (refNamed_any _ _ _ _ _ HS1.out HV1.out hq1 hq2 hq3 hq4)
        have HLN : Hid ((p.map (atL L)).length = L.length) := Lib.hid (by rw [List.length_map, hpe]; exact HL.out)
        clear hq1 hq2 hq3 hq4 hpl2 hnl hpe hpl
        go_wp2_with (go_at_call 39; refine HQ.out.mono ?_; rintro e w2 ⟨v2, rfl, ho2, hB2⟩)
        have HO2 := Lib.hid ho2
        have HB2' := Lib.hid hB2
        clear ho2 hB2
        go_ret2
        refine ⟨_, by rw [objE, HD.out.1]; rfl, ?_, HB.out.trans (HB2'.out.mono HB.out.size)⟩
        rw [HD.out.2, ← HLN.out]
        exact HO2.out.mono HB.out.size
  · have hne : ((names.length : Int) != zs.length) = true := by simp; omega
    have HO : Hid (objB names L = false) := Lib.hid (by simp [objB, hl])
    clear hl hzl H H2 hu hels
    generalize names.length = n at *
    generalize zs.length = m at *
    go_enter Tryz.func18, Tryz.ntmps18
    go_wp2_with fail
    go_ret2
    exact GivesO.bad HO.out rfl (Below.refl _ _)
end Go.Proofs.YtafbojiojeemoaaGreatDoor

/-
  The walk of TextLists: it answers true.
-/
namespace Go.Proofs.YtafbojiojeemoaaGreatDoor
open Go.RowKit Np Rw Vp Up Qp Tp

theorem mk_bytes {c : UInt8} : isMk c = (((c.toNat : Int) == 91) || ((c.toNat : Int) == 123)) := by
  have key : ∀ n, n < 256 → isMk (UInt8.ofNat n) = (((n : Int) == 91) || ((n : Int) == 123)) := by decide +kernel
  have h := key c.toNat c.toNat_lt
  rwa [UInt8.ofNat_toNat] at h
theorem cnt_snoc (l : List UInt8) (k : Nat) (h : k < l.length) : ((l.take (k + 1)).filter isMk).length = ((l.take k).filter isMk).length + if isMk l[k] = true then 1 else 0 := by
  rw [List.take_succ_eq_append_getElem h, List.filter_append, List.length_append]
  congr 1
  cases hm : isMk l[k] <;> simp [hm]
set_option maxRecDepth 100000 in
set_option maxHeartbeats 2000000 in
theorem marks_any (s : ByteArray) (w : World) (hs : s.size ≤ 600) : Calls Tryz.prog 17 #[.string s] w fun e w' => e = .returned (.int .i64 (cnt s.data.toList 0 : Nat)) ∧ w' = w := by
  have HC : Hid (cnt s.data.toList 0 = (s.data.toList.filter isMk).length) := Lib.hid (by unfold cnt; rw [List.drop_zero])
  have HS : Hid (∀ k, (h : k < s.size) → ((s.data.toList.take (k + 1)).filter isMk).length = ((s.data.toList.take k).filter isMk).length + if isMk s[k] = true then 1 else 0) := Lib.hid (fun k h => cnt_snoc s.data.toList k (by simpa using h))
  have HLE : Hid (∀ k, ((s.data.toList.take k).filter isMk).length ≤ k) := Lib.hid (fun k => Nat.le_trans (List.length_filter_le _ _) (List.length_take_le _ _))
  have HAL : Hid (s.data.toList.take s.size = s.data.toList) := Lib.hid (List.take_of_length_le (by rw [size_toList]; exact Nat.le_refl _))
  generalize cnt s.data.toList 0 = N at *
  go_enter Tryz.func17, Tryz.ntmps17
  go_wp2_with fail
  go_loopw [3, 4] (fun nv iv wr => ∃ k : Nat, k ≤ s.size ∧ iv = .int .i64 k ∧ nv = .int .i64 (((s.data.toList.take k).filter isMk).length : Nat) ∧ wr = w) (fun _ iv _ => s.size - (intOf iv).toNat)
  case atStart => exact ⟨0, Nat.zero_le _, rfl, by simp, rfl⟩
  case round =>
    obtain ⟨k, hk, rfl, rfl, rfl⟩ := hrel
    have hle := HLE.out k
    by_cases hlt : k < s.size
    · have HK := Lib.hid (HS.out k hlt)
      rw [mk_bytes] at HK
      generalize hM2 : ((s.data.toList.take (k + 1)).filter isMk).length = M at *
      have HM2 := Lib.hid hM2
      clear hM2
      generalize hq : ((s.data.toList.take k).filter isMk).length = q at *
      by_cases h1 : s[k].toNat = 91
      · have h1b : ((s[k].toNat : Int) == 91) = true := by simp; omega
        rw [h1b] at HK
        have HM : Hid (M = q + 1) := Lib.hid (by simpa using HK.out)
        clear HK hq
        go_wp2_with fail
        go_roundw
        case rel => exact ⟨k + 1, by omega, by go_num, by rw [HM2.out, HM.out]; first | rfl | go_num, by first | trivial | rfl⟩
        case measure => simp [intOf]; omega
      · have h1b : ((s[k].toNat : Int) == 91) = false := by simp; omega
        by_cases h2 : s[k].toNat = 123
        · have h2b : ((s[k].toNat : Int) == 123) = true := by simp; omega
          rw [h1b, h2b] at HK
          have HM : Hid (M = q + 1) := Lib.hid (by simpa using HK.out)
          clear HK hq
          go_wp2_with fail
          go_roundw
          case rel => exact ⟨k + 1, by omega, by go_num, by rw [HM2.out, HM.out]; first | rfl | go_num, by first | trivial | rfl⟩
          case measure => simp [intOf]; omega
        · have h2b : ((s[k].toNat : Int) == 123) = false := by simp; omega
          rw [h1b, h2b] at HK
          have HM : Hid (M = q) := Lib.hid (by simpa using HK.out)
          clear HK hq
          go_wp2_with fail
          go_roundw
          case rel => exact ⟨k + 1, by omega, by go_num, by rw [HM2.out, HM.out], by first | trivial | rfl⟩
          case measure => simp [intOf]; omega
    · obtain rfl : k = s.size := by omega
      have HE : Hid (((s.data.toList.take s.size).filter isMk).length = N) := Lib.hid (by rw [HC.out, HAL.out])
      go_wp2_with fail
      go_ret
      exact ⟨ret_i64 (by rw [HE.out]), by first | trivial | rfl⟩

/-- Parse answers this row. -/
def SomeE (L : List Nd) (w : World) (e : Ending) (w' : World) : Prop :=
  ∃ (A : Option Addr) (m c : Nat), e = .returned (.tuple #[.slice A m c, .int .i64 0, .int .i64 0]) ∧ Hid (Nds w' (.slice A m c) L) ∧ Hid (Below w.heap.size w w')
theorem parse_some {L : List Nd} {S : List UInt8} (hp : prsR S = (L, 0, 0)) (s : ByteArray) (hs : s.data.toList = S) (hz : s.size ≤ 400000) (w : World) (hT : Tv w) :
    Calls Tryz.prog 9 #[.string s] w (SomeE L w) := by
  refine (parse_any s w hz hT.er hT.tabs hT.wds).mono ?_
  rintro e w' ⟨V, he, hV, hb⟩
  rw [hs, hp] at he hV
  obtain ⟨A, c, rfl, h⟩ := hV.row ndc_len
  exact ⟨A, _, c, he, Lib.hid ⟨A, c, rfl, h⟩, Lib.hid hb⟩
/-- Parse answers something. -/
def AnyE (z : Bool) (w : World) (e : Ending) (w' : World) : Prop :=
  ∃ (A : Option Addr) (n c : Nat) (p er : Int), e = .returned (.tuple #[.slice A n c, .int .i64 p, .int .i64 er]) ∧ (z = true → ¬ er = 0) ∧ Hid (Below w.heap.size w w')
theorem read_two (s : ByteArray) (hs : s.size ≤ 600) : (∃ t, Val t ∧ prsR s.data.toList = (flat t, 0, 0) ∧ (flat t).length ≤ 301 ∧ ∀ w, Tv w → Calls Tryz.prog 9 #[.string s] w (SomeE (flat t) w)) ∨ (∀ w, Tv w → Calls Tryz.prog 9 #[.string s] w (AnyE true w)) := by
  have hl : s.data.toList.length = s.size := size_toList s
  rcases prsR_cases s.data.toList with ⟨⟨t, hv, ht, hd⟩, h2, h3, h4, h5⟩ | ⟨h1, h2⟩
  · have hp : prsR s.data.toList = (flat t, 0, 0) := by
      rw [← ht]
      generalize prsR s.data.toList = R at h4 h5
      obtain ⟨a, b, c⟩ := R
      simp only at h4 h5
      rw [h4, h5]
    refine .inl ⟨t, hv, hp, by rw [← ht]; omega, fun w hT => parse_some hp s rfl (by omega) w hT⟩
  · refine .inr (fun w hT => ?_)
    refine (parse_any s w (by omega) hT.er hT.tabs hT.wds).mono ?_
    rintro e w' ⟨V, he, hV, hb⟩
    obtain ⟨A, c, rfl, -⟩ := hV.form
    exact ⟨A, _, c, _, _, he, fun _ => by have := h2.1; omega, Lib.hid hb⟩
theorem readE_any (s : ByteArray) (hs : s.size ≤ 600) (w : World) (hT : Tv w) : Calls Tryz.prog 9 #[.string s] w (AnyE false w) := by
  refine (parse_any s w (by omega) hT.er hT.tabs hT.wds).mono ?_
  rintro e w' ⟨V, he, hV, hb⟩
  obtain ⟨A, c, rfl, -⟩ := hV.form
  exact ⟨A, _, c, _, _, he, (fun h => by cases h), Lib.hid hb⟩
theorem nds_len {w : World} {A : Option Addr} {n c : Nat} {l : List Nd} (h : Nds w (.slice A n c) l) : l.length = n := by
  obtain ⟨B, d, hv, -⟩ := h
  injection hv with h1 h2 h3
  exact h2.symm
theorem list_vals {t u : Tr Nd} (ht : Val t) (hu : Val u) : liV [flat t, flat u] = hdN 5 [flat t, flat u].length :: [flat t, flat u].flatten := by
  unfold liV laid
  simp only [List.map_cons, List.map_nil, setNm_val ht, setNm_val hu]
theorem vls_of1 (W : World) (n : Nat) (hn : W.heap.size = n) (E : TypeId) (a : Value) (l1 : List Nd) (h1 : Nds W a l1) : Vls (W.alloc (.cells #[a] E)) (.slice (some ⟨n, 0, none⟩) 1 1) [l1] := by
  subst hn
  have hb : Below W.heap.size W (W.alloc (.cells #[a] E)) := (Below.refl _ _).alloc (Nat.le_refl _) _
  refine ⟨[a], rfl, Row.lit vac_len W E _ [a] (by unfold maxLen; simp) rfl, fun k x l hx hk => ?_⟩
  match k, hx, hk with
  | 0, hx, hk => simp at hx hk; subst hx hk; exact h1.below hb
  | k + 1, hx, hk => simp at hx

set_option maxRecDepth 100000 in
set_option maxHeartbeats 8000000 in
theorem textLists_any (s1 s2 : ByteArray) (w : World) (hq1 : s1.size ≤ 140737488355328) (hq2 : s2.size ≤ 140737488355328) (hT : Tv w) :
    Calls Tryz.prog 6 #[.string s1, .string s2] w fun e w' => e = .returned (.bool true) ∧ Below w.heap.size w w' := by
  have HT := Lib.hid hT
  clear hT
  have HB0 : Hid (Below w.heap.size w w) := Lib.hid (Below.refl _ _)
  by_cases hlong : 600 < s1.size + s2.size
  · go_enter Tryz.func6, Tryz.ntmps6
    go_wp2_with fail
    refine (alive_any _ (HT.out.below HB0.out)).mono ?_
    rintro e wz ⟨rfl, hbz⟩
    go_wp2_with fail
    go_ret
    exact ⟨rfl, Below.after HB0.out hbz⟩
  · have hs1 : s1.size ≤ 600 := by omega
    have hs2 : s2.size ≤ 600 := by omega
    rcases read_two s1 hs1 with ⟨t, ht, hpt, htl, hct⟩ | hct
    rotate_left
    · have HC := Lib.hid hct
      have HD := Lib.hid (fun W hT => readE_any s2 hs2 W hT)
      clear hct
      go_enter Tryz.func6, Tryz.ntmps6
      go_wp2_with fail
      refine (HC.out _ (HT.out.below HB0.out)).mono ?_
      rintro e w1 ⟨A1, n1, c1, p1, er1, rfl, her, HB1⟩
      have her1 := her rfl
      have hee : (er1 != 0) = true := by simpa using her1
      have hef : (er1 == 0) = false := by simpa using her1
      clear her
      go_wp2_with fail
      refine (HD.out _ (HT.out.below HB1.out)).mono ?_
      rintro e w2 ⟨A2, n2, c2, p2, er2, rfl, -, hb2⟩
      have HB2 := Lib.hid (Below.after HB1.out hb2.out)
      go_wp2_with fail
      refine (alive_any _ (HT.out.below HB2.out)).mono ?_
      rintro e wz ⟨rfl, hbz⟩
      go_wp2_with fail
      go_ret
      exact ⟨rfl, Below.after HB2.out hbz⟩
    rcases read_two s2 hs2 with ⟨u, hu, hpu, hul, hcu⟩ | hcu
    rotate_left
    · have HC := Lib.hid hct
      have HD := Lib.hid hcu
      clear hct hcu
      go_enter Tryz.func6, Tryz.ntmps6
      go_wp2_with fail
      refine (HC.out _ (HT.out.below HB0.out)).mono ?_
      rintro e w1 ⟨A1, n1, c1, rfl, HX1, HB1⟩
      go_wp2_with fail
      refine (HD.out _ (HT.out.below HB1.out)).mono ?_
      rintro e w2 ⟨A2, n2, c2, p2, er2, rfl, her, hb2⟩
      have her2 := her rfl
      have hee : (er2 != 0) = true := by simpa using her2
      have hef : (er2 == 0) = false := by simpa using her2
      clear her
      have HB2 := Lib.hid (Below.after HB1.out hb2.out)
      go_wp2_with fail
      refine (alive_any _ (HT.out.below HB2.out)).mono ?_
      rintro e wz ⟨rfl, hbz⟩
      go_wp2_with fail
      go_ret
      exact ⟨rfl, Below.after HB2.out hbz⟩
    have hm1 := marks_any s1
    have hm2 := marks_any s2
    have HM1 := Lib.hid (fun W => hm1 W hs1)
    have HM2 := Lib.hid (fun W => hm2 W hs2)
    clear hm1 hm2
    have HC := Lib.hid hct
    have HD := Lib.hid hcu
    have hl1 := flat_pos t
    have hl2 := flat_pos u
    clear hct hcu
    have HA1 : Hid (cnt s1.data.toList 0 < 128 → Alone s1.data.toList (flat t)) := Lib.hid (fun h => alone_of hpt (by intro e; rw [e] at hl1; simp at hl1) h)
    have HA2 : Hid (cnt s2.data.toList 0 < 128 → Alone s2.data.toList (flat u)) := Lib.hid (fun h => alone_of hpu (by intro e; rw [e] at hl2; simp at hl2) h)
    have hN1 : cnt s1.data.toList 0 ≤ 600 := by have := List.length_filter_le isMk s1.data.toList; unfold cnt; rw [List.drop_zero]; rw [size_toList] at this; omega
    have hN2 : cnt s2.data.toList 0 ≤ 600 := by have := List.length_filter_le isMk s2.data.toList; unfold cnt; rw [List.drop_zero]; rw [size_toList] at this; omega
    generalize cnt s1.data.toList 0 = N1 at *
    generalize cnt s2.data.toList 0 = N2 at *
    clear hpt hpu
    have HT1 := Lib.hid ht
    have HU1 := Lib.hid hu
    clear ht hu
    by_cases hd : 128 ≤ N1 ∨ 128 ≤ N2
    · go_enter Tryz.func6, Tryz.ntmps6
      go_wp2_with fail
      refine (HC.out _ (HT.out.below HB0.out)).mono ?_
      rintro e w1 ⟨A1, n1, c1, rfl, HX1, HB1⟩
      go_wp2_with fail
      refine (HD.out _ (HT.out.below HB1.out)).mono ?_
      rintro e w2 ⟨A2, n2, c2, rfl, HX2, hb2⟩
      have HB2 := Lib.hid (Below.after HB1.out hb2.out)
      have hn1 := nds_len HX1.out
      have hn2 := nds_len HX2.out
      have hp1 : 0 < n1 := by omega
      have hp2 : 0 < n2 := by omega
      have hz1 : ((n1 : Int) == 0) = false := by simp; omega
      have hz2 : ((n2 : Int) == 0) = false := by simp; omega
      clear hn1 hn2
      by_cases hd1 : 128 ≤ N1
      · go_wp2_with fail
        refine (HM1.out _).mono ?_
        rintro e w3 ⟨rfl, rfl⟩
        go_wp2_with fail
        refine (alive_any _ (HT.out.below HB2.out)).mono ?_
        rintro e wz ⟨rfl, hbz⟩
        go_wp2_with fail
        go_ret
        exact ⟨rfl, Below.after HB2.out hbz⟩
      · have hd2 : 128 ≤ N2 := by omega
        go_wp2_with fail
        refine (HM1.out _).mono ?_
        rintro e w3 ⟨rfl, rfl⟩
        go_wp2_with fail
        refine (HM2.out _).mono ?_
        rintro e w3 ⟨rfl, rfl⟩
        go_wp2_with fail
        refine (alive_any _ (HT.out.below HB2.out)).mono ?_
        rintro e wz ⟨rfl, hbz⟩
        go_wp2_with fail
        go_ret
        exact ⟨rfl, Below.after HB2.out hbz⟩
    · have hd1 : ¬ 128 ≤ N1 := fun h => hd (.inl h)
      have hd2 : ¬ 128 ≤ N2 := fun h => hd (.inr h)
      have hA1 := HA1.out (by omega)
      have hA2 := HA2.out (by omega)
      clear hd HA1 HA2
      have hcat1 : ((((ByteArray.mk #[91] ++ s1) ++ ByteArray.mk #[44]) ++ s2) ++ ByteArray.mk #[93]).data.toList = 91 :: (s1.data.toList ++ 44 :: (s2.data.toList ++ [93])) := by simp
      have hcat2 : ((((ByteArray.mk #[123, 34, 98, 34, 58] ++ s2) ++ ByteArray.mk #[44, 34, 97, 34, 58]) ++ s1) ++ ByteArray.mk #[125]).data.toList = 123 :: 34 :: 98 :: 34 :: 58 :: (s2.data.toList ++ 44 :: 34 :: 97 :: 34 :: 58 :: (s1.data.toList ++ [125])) := by simp
      have hcat3 : ((((ByteArray.mk #[123, 34, 97, 34, 58] ++ s1) ++ ByteArray.mk #[44, 34, 97, 34, 58]) ++ s2) ++ ByteArray.mk #[125]).data.toList = 123 :: 34 :: 97 :: 34 :: 58 :: (s1.data.toList ++ 44 :: 34 :: 97 :: 34 :: 58 :: (s2.data.toList ++ [125])) := by simp
      have hP1 := two_list hA1 hA2
      rw [list_vals HT1.out HU1.out] at hP1
      have hP2 := two_obj (c := 98) (d := 97) (.inr rfl) (.inl rfl) hA2 hA1
      rw [put_two (by decide), ob_turn] at hP2
      have hP3 := two_obj (c := 97) (d := 97) (.inl rfl) (.inl rfl) hA1 hA2
      rw [put_one] at hP3
      have hP3' : prsR (123 :: 34 :: 97 :: 34 :: 58 :: (s1.data.toList ++ 44 :: 34 :: 97 :: 34 :: 58 :: (s2.data.toList ++ [125]))) = (objV [[97]] [flat u], 0, 0) := hP3
      have hz1 : ((((ByteArray.mk #[91] ++ s1) ++ ByteArray.mk #[44]) ++ s2) ++ ByteArray.mk #[93]).size ≤ 400000 := by rw [← size_toList, hcat1]; simp; omega
      have hz2 : ((((ByteArray.mk #[123, 34, 98, 34, 58] ++ s2) ++ ByteArray.mk #[44, 34, 97, 34, 58]) ++ s1) ++ ByteArray.mk #[125]).size ≤ 400000 := by rw [← size_toList, hcat2]; simp; omega
      have hz3 : ((((ByteArray.mk #[123, 34, 97, 34, 58] ++ s1) ++ ByteArray.mk #[44, 34, 97, 34, 58]) ++ s2) ++ ByteArray.mk #[125]).size ≤ 400000 := by rw [← size_toList, hcat3]; simp; omega
      have HP1 := Lib.hid (fun W hT => parse_some hP1 _ hcat1 hz1 W hT)
      have HP2 := Lib.hid (fun W hT => parse_some hP2 _ hcat2 hz2 W hT)
      have HP3 := Lib.hid (fun W hT => parse_some hP3' _ hcat3 hz3 W hT)
      clear hcat1 hcat2 hcat3 hP1 hP2 hP3 hP3' hz1 hz2 hz3 hA1 hA2
      generalize hS1 : ((((ByteArray.mk #[91] ++ s1) ++ ByteArray.mk #[44]) ++ s2) ++ ByteArray.mk #[93]) = S1 at *
      generalize hS2 : ((((ByteArray.mk #[123, 34, 98, 34, 58] ++ s2) ++ ByteArray.mk #[44, 34, 97, 34, 58]) ++ s1) ++ ByteArray.mk #[125]) = S2 at *
      generalize hS3 : ((((ByteArray.mk #[123, 34, 97, 34, 58] ++ s1) ++ ByteArray.mk #[44, 34, 97, 34, 58]) ++ s2) ++ ByteArray.mk #[125]) = S3 at *
      go_enter Tryz.func6, Tryz.ntmps6
      go_wp2_with fail
      refine (HC.out _ (HT.out.below HB0.out)).mono ?_
      rintro e w1 ⟨A1, n1, c1, rfl, HX1, HB1⟩
      go_wp2_with fail
      refine (HD.out _ (HT.out.below HB1.out)).mono ?_
      rintro e w2 ⟨A2, n2, c2, rfl, HX2, hb2⟩
      have HB2 := Lib.hid (Below.after HB1.out hb2.out)
      have HX3 := Lib.hid (HX1.out.below hb2.out)
      clear hb2
      have hn1 := nds_len HX1.out
      have hn2 := nds_len HX2.out
      have hp1 : 0 < n1 := by omega
      have hp2 : 0 < n2 := by omega
      have hz1 : ((n1 : Int) == 0) = false := by simp; omega
      have hz2 : ((n2 : Int) == 0) = false := by simp; omega
      clear hn1 hn2
      go_wp2_with fail
      refine (HM1.out _).mono ?_
      rintro e w3 ⟨rfl, rfl⟩
      go_wp2_with fail
      refine (HM2.out _).mono ?_
      rintro e w4 ⟨rfl, rfl⟩
      go_wp2_with fail
      refine (HP1.out _ (HT.out.below HB2.out)).mono ?_
      rintro e w5 ⟨A5, n5, c5, rfl, HL5, hb5⟩
      have HB5 := Lib.hid (Below.after HB2.out hb5.out)
      have HX5 := Lib.hid (HX3.out.below hb5.out)
      have HY5 := Lib.hid (HX2.out.below hb5.out)
      clear hb5
      go_wp2_with fail
      refine (HP2.out _ (HT.out.below HB5.out)).mono ?_
      rintro e w6 ⟨A6, n6, c6, rfl, HO6, hb6⟩
      have HB6 := Lib.hid (Below.after HB5.out hb6.out)
      have HX6 := Lib.hid (HX5.out.below hb6.out)
      have HY6 := Lib.hid (HY5.out.below hb6.out)
      have HL6 := Lib.hid (HL5.out.below hb6.out)
      clear hb6
      go_wp2_with fail
      refine (HP3.out _ (HT.out.below HB6.out)).mono ?_
      rintro e w7 ⟨A7, n7, c7, rfl, HP7, hb7⟩
      have HB7 := Lib.hid (Below.after HB6.out hb7.out)
      have HX7 := Lib.hid (HX6.out.below hb7.out)
      have HY7 := Lib.hid (HY6.out.below hb7.out)
      have HL7 := Lib.hid (HL6.out.below hb7.out)
      have HO7 := Lib.hid (HO6.out.below hb7.out)
      clear hb7
      go_wp2_with fail
      have hne2 : ∀ l ∈ [flat t, flat u], l ≠ [] := by
        intro l hl e
        simp only [List.mem_cons, List.not_mem_nil, or_false] at hl
        rcases hl with h | h
        · rw [← h, e] at hl1; simp at hl1
        · rw [← h, e] at hl2; simp at hl2
      have hbS : Below w7.heap.size w7 (w7.alloc (.cells #[.string ⟨#[97]⟩, .string ⟨#[98]⟩] 9)) := (Below.refl _ _).alloc (Nat.le_refl _) _
      have hbV : Below (w7.alloc (.cells #[.string ⟨#[97]⟩, .string ⟨#[98]⟩] 9)).heap.size (w7.alloc (.cells #[.string ⟨#[97]⟩, .string ⟨#[98]⟩] 9)) ((w7.alloc (.cells #[.string ⟨#[97]⟩, .string ⟨#[98]⟩] 9)).alloc (.cells #[.slice A1 n1 c1, .slice A2 n2 c2] 24)) := (Below.refl _ _).alloc (Nat.le_refl _) _
      have hbSV := Below.after hbS hbV
      have hO1 := refObject_any (.slice (some ⟨w7.heap.size, 0, none⟩) 2 2) (.slice (some ⟨w7.heap.size + 1, 0, none⟩) 2 2) [[97], [98]] [flat t, flat u] _ ((sts_two w7 w7.heap.size rfl 9 [97] [98]).below hbV) (vls_two (w7.alloc (.cells #[.string ⟨#[97]⟩, .string ⟨#[98]⟩] 9)) (w7.heap.size + 1) (by simp) 24 (.slice A1 n1 c1) (.slice A2 n2 c2) (flat t) (flat u) (HX7.out.below hbS) (HY7.out.below hbS)) (by simp) (by simp; omega) (by intro s hs; simp at hs; unfold maxLen; rcases hs with rfl | rfl <;> simp) hne2
      have HB8 := Lib.hid (Below.after HB7.out hbSV)
      have HX8 := Lib.hid (HX7.out.below hbSV)
      have HY8 := Lib.hid (HY7.out.below hbSV)
      have HL8 := Lib.hid (HL7.out.below hbSV)
      have HO8 := Lib.hid (HO7.out.below hbSV)
      have HQ8 := Lib.hid (HP7.out.below hbSV)
      clear hbS hbV hbSV
      refine hO1.mono ?_
      rintro e w9 ⟨v9, rfl, hv9, hb9⟩
      obtain ⟨A9, c9, rfl, hn9⟩ := hv9.row ndc_len
      have HV9 : Hid (Nds w9 (.slice A9 _ c9) _) := Lib.hid ⟨A9, c9, rfl, hn9⟩
      have HB9 := Lib.hid (Below.after HB8.out hb9)
      have HX9 := Lib.hid (HX8.out.below hb9)
      have HY9 := Lib.hid (HY8.out.below hb9)
      have HL9 := Lib.hid (HL8.out.below hb9)
      have HO9 := Lib.hid (HO8.out.below hb9)
      have HQ9 := Lib.hid (HQ8.out.below hb9)
      clear hO1 hv9 hn9 hb9 HB8 HX8 HY8 HL8 HO8 HQ8 HB7 HX7 HY7 HL7 HO7 HP7
      generalize hz9 : (objV [[97], [98]] [flat t, flat u]).length = z9 at HV9 ⊢
      clear hz9
      go_wp2_with fail
      have hbS : Below w9.heap.size w9 (w9.alloc (.cells #[.string ⟨#[97]⟩] 9)) := (Below.refl _ _).alloc (Nat.le_refl _) _
      have hbV : Below (w9.alloc (.cells #[.string ⟨#[97]⟩] 9)).heap.size (w9.alloc (.cells #[.string ⟨#[97]⟩] 9)) ((w9.alloc (.cells #[.string ⟨#[97]⟩] 9)).alloc (.cells #[.slice A2 n2 c2] 24)) := (Below.refl _ _).alloc (Nat.le_refl _) _
      have hbSV := Below.after hbS hbV
      have hO2 := refObject_any (.slice (some ⟨w9.heap.size, 0, none⟩) 1 1) (.slice (some ⟨w9.heap.size + 1, 0, none⟩) 1 1) [[97]] [flat u] _ (Row.below (row_one stc_len w9 w9.heap.size rfl 9 #[.string ⟨#[97]⟩] [97] rfl) hbV) (vls_of1 (w9.alloc (.cells #[.string ⟨#[97]⟩] 9)) (w9.heap.size + 1) (by simp) 24 (.slice A2 n2 c2) (flat u) (HY9.out.below hbS)) (by simp) (by simp; omega) (by intro s hs; simp at hs; unfold maxLen; rw [hs]; simp) (fun l hl => hne2 l (by simp only [List.mem_cons, List.not_mem_nil, or_false] at hl ⊢; exact .inr hl))
      have HB10 := Lib.hid (Below.after HB9.out hbSV)
      have HX10 := Lib.hid (HX9.out.below hbSV)
      have HY10 := Lib.hid (HY9.out.below hbSV)
      have HL10 := Lib.hid (HL9.out.below hbSV)
      have HO10 := Lib.hid (HO9.out.below hbSV)
      have HQ10 := Lib.hid (HQ9.out.below hbSV)
      have HV10 := Lib.hid (HV9.out.below hbSV)
      clear hbS hbV hbSV
      refine hO2.mono ?_
      rintro e w11 ⟨v11, rfl, hv11, hb11⟩
      obtain ⟨A11, c11, rfl, hn11⟩ := hv11.row ndc_len
      have HR11 : Hid (Nds w11 (.slice A11 _ c11) _) := Lib.hid ⟨A11, c11, rfl, hn11⟩
      have HB11 := Lib.hid (Below.after HB10.out hb11)
      have HX11 := Lib.hid (HX10.out.below hb11)
      have HY11 := Lib.hid (HY10.out.below hb11)
      have HL11 := Lib.hid (HL10.out.below hb11)
      have HO11 := Lib.hid (HO10.out.below hb11)
      have HQ11 := Lib.hid (HQ10.out.below hb11)
      have HV11 := Lib.hid (HV10.out.below hb11)
      clear hO2 hv11 hn11 hb11 HB10 HX10 HY10 HL10 HO10 HQ10 HV10 HB9 HX9 HY9 HL9 HO9 HQ9 HV9
      generalize hz11 : (objV [[97]] [flat u]).length = z11 at HR11 ⊢
      clear hz11
      go_wp2_with fail
      refine (alive_any _ (HT.out.below HB11.out)).mono ?_
      rintro e w12 ⟨rfl, hb12⟩
      have HB12 := Lib.hid (Below.after HB11.out hb12)
      have HX12 := Lib.hid (HX11.out.below hb12)
      have HY12 := Lib.hid (HY11.out.below hb12)
      have HL12 := Lib.hid (HL11.out.below hb12)
      have HO12 := Lib.hid (HO11.out.below hb12)
      have HQ12 := Lib.hid (HQ11.out.below hb12)
      have HV12 := Lib.hid (HV11.out.below hb12)
      have HR12 := Lib.hid (HR11.out.below hb12)
      clear hb12 HB11 HX11 HY11 HL11 HO11 HQ11 HV11 HR11
      go_wp2_with fail
      have hbV : Below w12.heap.size w12 (w12.alloc (.cells #[.slice A1 n1 c1, .slice A2 n2 c2] 24)) := (Below.refl _ _).alloc (Nat.le_refl _) _
      have hLS := refList_any (.slice (some ⟨w12.heap.size, 0, none⟩) 2 2) [flat t, flat u] _ (vls_two w12 w12.heap.size rfl 24 (.slice A1 n1 c1) (.slice A2 n2 c2) (flat t) (flat u) HX12.out HY12.out) (by simp) (by simp; omega)
      refine hLS.mono ?_
      rintro e w13 ⟨v13, rfl, hv13, hb13⟩
      obtain ⟨A13, c13, rfl, hn13⟩ := hv13.row ndc_len
      have HK13 : Hid (Nds w13 (.slice A13 _ c13) _) := Lib.hid ⟨A13, c13, rfl, hn13⟩
      have hbb := Below.after hbV hb13
      have HB13 := Lib.hid (Below.after HB12.out hbb)
      have HL13 := Lib.hid (HL12.out.below hbb)
      have HO13 := Lib.hid (HO12.out.below hbb)
      have HQ13 := Lib.hid (HQ12.out.below hbb)
      have HV13 := Lib.hid (HV12.out.below hbb)
      have HR13 := Lib.hid (HR12.out.below hbb)
      clear hbV hLS hv13 hn13 hb13 hbb HB12 HX12 HY12 HL12 HO12 HQ12 HV12 HR12
      generalize hz13 : (hdN 5 [flat t, flat u].length :: [flat t, flat u].flatten).length = z13 at HK13 ⊢
      clear hz13
      go_wp2_with fail
      refine (same_true _ _ _ _ HL13.out HK13.out).mono ?_
      rintro e w14 ⟨rfl, hb14⟩
      have HB14 := Lib.hid (Below.after HB13.out hb14)
      have HO14 := Lib.hid (HO13.out.below hb14)
      have HQ14 := Lib.hid (HQ13.out.below hb14)
      have HV14 := Lib.hid (HV13.out.below hb14)
      have HR14 := Lib.hid (HR13.out.below hb14)
      clear hb14 HB13 HL13 HO13 HQ13 HV13 HR13 HK13
      go_wp2_with fail
      refine (same_true _ _ _ _ HO14.out HV14.out).mono ?_
      rintro e w15 ⟨rfl, hb15⟩
      have HB15 := Lib.hid (Below.after HB14.out hb15)
      have HQ15 := Lib.hid (HQ14.out.below hb15)
      have HR15 := Lib.hid (HR14.out.below hb15)
      clear hb15 HB14 HO14 HQ14 HV14 HR14
      go_wp2_with fail
      refine (same_true _ _ _ _ HQ15.out HR15.out).mono ?_
      rintro e w16 ⟨rfl, hb16⟩
      have HB16 := Lib.hid (Below.after HB15.out hb16)
      clear hb16
      go_wp2_with fail
      go_ret
      exact ⟨ret_bool (by first | rfl | simp), HB16.out⟩
end Go.Proofs.YtafbojiojeemoaaGreatDoor

/-
  The statement TextLists holds: called with any two texts, whatever lies in memory, it returns true, and each argument reads as it read before. Conditions: the listed variables of the library (two tables of bits, one of powers of ten, two of UTF-8, strconv's two errors) and the program's table of words read as the program's text lays them (the tie is given).
-/
namespace Go.Proofs.YtafbojiojeemoaaGreatDoor
open Go.ChangeShapes Go.WideShapes Go.ChangeAt Go.RowKit Go.ChangeMaps

set_option maxRecDepth 100000 in
theorem textLists_lifted (os : Os) (started : os.Started) (H : Type) (enc : TypeId × Value → H) :
    ReturnsInHanded {} Tryz.checked os 6 .any (fun w args => (Rows.textListsSpec.pre enc Tryz.prog Tryz.f6 [] false w args ∧ laidMetH Tryz.prog seatLaid w) ∧ sizedMet enc Tryz.prog Tryz.f6 (OpenSpec.ofChange Rows.textListsSpec) false w args)
      (Rows.textListsSpec.post enc Tryz.prog Tryz.f6 false true false false) := by
  refine returnsInHanded_of_change_and (C := Tryz.checked) (X := fun w _ => laidMetH Tryz.prog seatLaid w) (fun _ _ _ hh h => h.of_heap hh) ownKn started (by kernel_rfl) Tryz.func6
    (ChangeSpec.witness_shaped (enc := enc) (C := Tryz.checked) (os := os) (X := fun w _ => laidMetH Tryz.prog seatLaid w) false (World.laidAll Tryz.prog os seatLaid)
      #[.string ⟨#[]⟩, .string ⟨#[]⟩] 8 (World.laidAll_os _ _ _)
      (World.shaped_of_ZipB (by kernel_rfl) (by kernel_rfl)) (by kernel_rfl) (by kernel_rfl) (by kernel_rfl) (laid_met os _)) ?_
  intro W base args ds gs before hval0 hW _ hwt0 hL _
  have hval : ∀ (j : Nat) t v, Tryz.f6.params[j]? = some t → args[j]? = some v → Value.okWide Tryz.prog W .any base t v := hval0
  have hW' := hW
  obtain ⟨p, q, hA0, hV, rfl, _, _⟩ := hW
  have hA : DataW.TrodAll enc Tryz.prog W 0 (fun _ => true) true Tryz.f6.params.toList args.toList ds p := hA0
  have hwt : (DataW.weightsEach Tryz.prog (Tryz.f6.params.toList ++ Rows.textListsSpec.plain.varTypes Tryz.prog) (ds ++ gs)).all (· ≤ reachBytes) = true := hwt0
  rw [Tryz.params6] at hA hval
  obtain ⟨v0, v1, d0, d1, p0, p1, rfl, rfl, rfl, h0, h1⟩ := trodAll_two hA
  obtain ⟨rfl, rfl⟩ := trodVars_none hV
  obtain ⟨t0, rfl, hd0, -, ht0⟩ := open_string Tryz.underlying9 (hval 0 _ v0 rfl rfl) h0
  have hz0 : t0.size ≤ 140737488355328 := text_sized hwt (j := 0) (by rw [Tryz.params6]; rfl) (by rw [hd0]; rfl)
  obtain ⟨t1, rfl, hd1, -, ht1⟩ := open_string Tryz.underlying9 (hval 1 _ v1 rfl rfl) h1
  have hz1 : t1.size ≤ 140737488355328 := text_sized hwt (j := 1) (by rw [Tryz.params6]; rfl) (by rw [hd1]; rfl)
  refine (textLists_any t0 t1 W hz0 hz1 (tv_of_laid hL)).mono fun e W' ⟨he, hb⟩ => ?_
  subst he
  exact ⟨_, rfl, law_post (tb := 4) laidOut hW' rfl Tryz.underlying4 (by kernel_rfl) rfl (by
    rw [Tryz.params6]
    intro t ht
    have hall : ([9, 9].all fun t => Tryz.prog.readableRec t && decide (t < Tryz.prog.types.size)) = true := by kernel_rfl
    obtain ⟨h1, h2⟩ := Bool.and_eq_true_iff.1 (List.all_eq_true.1 hall t ht)
    exact ⟨h1, of_decide_eq_true h2⟩) hb⟩

theorem textLists_holds : Rows.TextListsSaid :=
  OpenClaim.holds_of_wide 6 Tryz.f6 rfl rfl rfl rfl rfl rfl rfl ⟨rfl, rfl, rfl, rfl, rfl⟩ rfl rfl rfl rfl rfl (by kernel_rfl) Tryz.func6 (by kernel_rfl)
    (of_decide_eq_true (by kernel_rfl)) (by unfold Func.isWrapper; first | (rw [if_pos (by decide +kernel)]; kernel_rfl) | (rw [if_neg (by decide +kernel)]; exact ⟨rfl, rfl⟩))
    (fun os started H enc _ => textLists_lifted os started H enc)

theorem textLists_card : Rows.TextListsCardSaid :=
  Claim7.holds_tied_plain_at .later [] Rows.textListsCard.laidKinds true Rows.textListsCard.stood.harness Rows.textListsCard.stood.looks
    textLists_holds (fun _ h => by cases h) (by kernel_rfl) (fun _ h => by cases h) textLists_row_tie rfl ⟨rfl, rfl⟩ (by kernel_rfl) rfl
    (fun f fn hf hfn => by
      obtain rfl : f = 6 := Option.some.inj ((show Tryz.prog.funcNamed "loupe/loupelaw04.TextLists" = some 6 by kernel_rfl).symm.trans hf) |>.symm
      obtain rfl : fn = Tryz.f6 := (Option.some.inj (Tryz.func6.symm.trans hfn)).symm
      exact ⟨by kernel_rfl, fun j t ht => by
        rw [Tryz.params6] at ht
        have hm : t ∈ [9, 9] := by simpa using Array.mem_of_getElem? ht
        have hall : ([9, 9].all fun u => !Tryz.prog.wantsStandIn u) = true := by kernel_rfl
        exact (show Tryz.prog.wantsStandIn t = false by simpa using List.all_eq_true.1 hall t hm)⟩)
    (by kernel_rfl)
#print axioms textLists_card
end Go.Proofs.YtafbojiojeemoaaGreatDoor
