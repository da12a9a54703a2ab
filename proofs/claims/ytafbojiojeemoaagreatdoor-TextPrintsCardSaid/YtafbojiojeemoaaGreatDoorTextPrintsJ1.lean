/-
  Joined: RefW7, RefW8, TxX, NumPlain12, NumBy, NumW16, NumW17, TpWa, TpWb, TpWc, TpWd, TpWe, TpWf, TpWg, TpW, TpL, TextPrintsCard.
-/
import Derived.Test.YtafbojiojeemoaaGreatDoorTextCutJ7
import Derived.Test.YtafbojiojeemoaaGreatDoorTextCutJ1
import Derived.Test.YtafbojiojeemoaaGreatDoorRefW6
import Derived.Test.YtafbojiojeemoaaGreatDoorTextCutJ13
import Derived.Test.YtafbojiojeemoaaGreatDoorTextCutJ15
import Derived.Test.YtafbojiojeemoaaGreatDoorTextCutJ16
import Derived.Test.YtafbojiojeemoaaGreatDoorTextCutJ14
import Derived.Test.YtafbojiojeemoaaGreatDoorTextCutJ12
import Derived.Laws.BytesArg
import Derived.Deep.RegionWith
import Derived.Deep.DeepCutAuto
import Derived.Deep.QuietTactic
import Derived.BigQuiet
import Derived.Test.YtafbojiojeemoaaGreatDoorQRef2

/-
  What the document's own answers are: own, Parts, Names, Depth.
-/
namespace Go.Proofs.YtafbojiojeemoaaGreatDoor
open Go.RowKit Np Rw Vp

set_option maxRecDepth 100000 in
set_option maxHeartbeats 4000000 in
theorem refOwn_any (v : Value) (l : List Nd) (a b : Nat) (n : Nd) (rest : List Nd) (w : World) (hv : Nds w v l) (hl : l.length ≤ 65536) (hab : a < b) (hbl : b ≤ l.length) (hs : (l.drop a).take (b - a) = n :: rest) :
    Calls Tryz.prog 109 #[v, .int .i64 a, .int .i64 b] w (OwnsN w (noName n :: rest)) := by
  obtain ⟨g, o, c, rfl, hc, hcm, hg, -⟩ := hv.opened (by omega)
  have HPC : Hid (Nds w (.slice (some ⟨g, o + a * 6, none⟩) (b - a) (c - a)) (n :: rest)) := Lib.hid (by
    have := hv.piece a (b - a) (by omega)
    rwa [hs] at this)
  have HLN : Hid ((n :: rest).length = b - a) := Lib.hid (by rw [← hs]; simp; omega)
  clear hs hv
  generalize hn : l.length = N at *
  have hac : a ≤ c := by omega
  have hbc : b ≤ c := by omega
  have hane : ¬ a = c := by omega
  clear hn
  generalize hr : n :: rest = r at HPC HLN
  have HR := Lib.hid hr
  clear hr
  go_enter Tryz.func109, Tryz.ntmps109
  have HO0 : Hid (OwnN w.heap.size (w.alloc (.cells #[] 35)) (.slice (some ⟨w.heap.size, 0, none⟩) 0 0) []) := Lib.hid (by
    have := Own.lit (base := w.heap.size) (E := 35) ndc_len w #[] [] (Nat.le_refl _) (by simp) rfl
    simpa using this)
  go_wp2_with (at_builtin; refine wpList_append_row (base := w.heap.size) elNode rfl _ _ rfl rfl HO0.out rfl (HPC.out.below ((Below.refl _ _).alloc (Nat.le_refl _) _)) ?_ ?_ ?_ ?_)
  · have := HLN.out; unfold maxLen; simp only [List.length_nil]; omega
  · have := HLN.out; simp only [List.length_nil]; omega
  · simp
  · intro A3 c3 w3 hown3 hg3 hwh
    clear hwh
    have HO3 : Hid (OwnN w.heap.size w3 (.slice A3 r.length c3) r) := Lib.hid hown3
    have HB3 : Hid (Below w.heap.size w w3) := Lib.hid (((Below.refl w.heap.size w).alloc (Nat.le_refl _) (.cells #[] 35)).trans (HO0.out.kept hg3 (by simp)))
    clear hown3 hg3
    obtain ⟨g', rfl, hc3, HG⟩ : ∃ g', A3 = some ⟨g', 0, none⟩ ∧ b - a ≤ c3 ∧ Hid (w.heap.size ≤ g' ∧ g' < w3.heap.size) := by
      have h := HO3.out
      obtain ⟨g', cap, hv, h1, h2⟩ := h.opened (by have := HLN.out; omega)
      injection hv with e1 _ e3
      have := h.cap.2.1
      exact ⟨g', e1, by have := HLN.out; omega, Lib.hid ⟨h1, h2⟩⟩
    have hk0 : r[0]? = some n := by rw [← HR.out]; rfl
    have x0 := Own.cell ndc_len (j := 0) HO3.out hk0 rfl
    have x1 := Own.cell ndc_len (j := 1) HO3.out hk0 rfl
    have x2 := Own.cell ndc_len (j := 2) HO3.out hk0 rfl
    have x3 := Own.cell ndc_len (j := 3) HO3.out hk0 rfl
    have x4 := Own.cell ndc_len (j := 4) HO3.out hk0 rfl
    have x5 := Own.cell ndc_len (j := 5) HO3.out hk0 rfl
    simp only [Nat.zero_mul, Nat.zero_add] at x0 x1 x2 x3 x4 x5
    have HK0 := Lib.hid hk0
    clear hk0
    rw [HLN.out] at HO3 ⊢
    have hba : 0 < b - a := by omega
    have HTH : Hid (∀ ob : Obj, (w3.alloc ob).there g' 0 6) := Lib.hid (fun ob => by
      have h : OwnN w.heap.size (w3.alloc ob) (.slice (some ⟨g', 0, none⟩) r.length c3) r := by rw [HLN.out]; exact HO3.out.alloc ob
      have := Own.there ndc_len h HK0.out
      simpa using this)
    have HPU : Hid (∀ ob : Obj, OwnN w.heap.size ((w3.alloc ob).setCells g' 0 (ndc (noName n))) (.slice (some ⟨g', 0, none⟩) (b - a) c3) (noName n :: rest)) := Lib.hid (fun ob => by
      have h : OwnN w.heap.size (w3.alloc ob) (.slice (some ⟨g', 0, none⟩) r.length c3) r := by rw [HLN.out]; exact HO3.out.alloc ob
      have h2 := Own.puts (y := noName n) ndc_len h HK0.out
      rw [HLN.out] at h2
      rw [← HR.out] at h2
      simpa using h2)
    go_wp2_with (refine wpList_store_node rfl _ _ rfl g' 0 (noName n) rfl rfl (HTH.out _) ?_)
    go_ret
    exact ⟨_, rfl, HPU.out _, Below.setCells HG.out.1 _ _ (HB3.out.alloc HB3.out.size _)⟩

theorem Elems.aside {base : Nat} {W W' : World} {v : Value} {xs zs : List (Option Addr × Nat × Nat)} {L : List (List Nd)} (h : Elems base W zs L) (hv : Own slc 1 24 base W v xs) (hg : W.grownBy W' v.ownBlock) : Elems base W' zs L :=
  ⟨h.1, fun k z l hz hl => Own.aside (h.2 k z l hz hl) hv (by decide) hg⟩

/-- What is handed back is one's own, so that more can be appended to it. -/
def OwnsV (w : World) (L : List (List Nd)) (e : Ending) (w' : World) : Prop := ∃ v' zs, e = .returned v' ∧ Own slc 1 24 w.heap.size w' v' zs ∧ Elems w.heap.size w' zs L ∧ Below w.heap.size w w'
def OwnsS (w : World) (L : List (List UInt8)) (e : Ending) (w' : World) : Prop := ∃ v', e = .returned v' ∧ Own stc 1 9 w.heap.size w' v' L ∧ Below w.heap.size w w'

set_option maxRecDepth 100000 in
set_option maxHeartbeats 4000000 in
theorem refParts_own (v : Value) (t : Tr Nd) (w : World) (hv : Nds w v (flat t)) (hl : (flat t).length ≤ 65536) (ht : Val t) :
    Calls Tryz.prog 72 #[v] w (OwnsV w (t.ks.map fun k => flat (nmd [] k))) := by
  have hvo := hv
  obtain ⟨g, o, c, rfl, hc, hcm, hg, hx⟩ := hvo.opened (flat_pos t)
  have hmany : t.nd.many = t.ks.length := (okT_eq.1 ht.ok).1
  have a1 : w.cell? ⟨g, o + 1, none⟩ = some (.int .i64 (t.ks.length : Nat)) := by
    have := (hx 0 t.nd (by rw [flat_eq]; rfl)).nd.c1
    rw [hmany] at this
    simpa using this
  have HA1 := Lib.hid a1
  have HV := Lib.hid hv
  have HKS := Lib.hid (okT_eq.1 ht.ok).2
  have hkl : t.ks.length ≤ 65536 := by
    have h1 := flats_len t.ks
    rw [flat_eq] at hl
    simp at hl
    omega
  have hpos := flat_pos t
  have HDR : Hid (∀ pre post, t.ks = pre ++ post → (flat t).drop (1 + (flats pre).length) = flats post) := Lib.hid (fun pre post h => by
    rw [flat_eq, h, flats_append, Nat.add_comm, List.drop_succ_cons, List.drop_left])
  clear hx hv hvo hmany a1
  have HLL := Lib.hid hl
  generalize hn : (flat t).length = n at *
  have HN := Lib.hid hn
  clear hn
  generalize hq : t.ks.length = q at *
  have HQ := Lib.hid hq
  clear hq
  go_enter Tryz.func72, Tryz.ntmps72
  have HO0 : Hid (Own slc 1 24 w.heap.size (w.alloc (.cells #[] 24)) (.slice (some ⟨w.heap.size, 0, none⟩) 0 0) []) := Lib.hid (by
    have := Own.lit (base := w.heap.size) (E := 24) slc_len w #[] [] (Nat.le_refl _) (by simp) rfl
    simpa using this)
  go_wp2_with fail
  go_loopw [3, 4, 5] (fun ov iv kv wr => ∃ (pre post : List (Tr Nd)) (zs : List (Option Addr × Nat × Nat)), t.ks = pre ++ post ∧ kv = .int .i64 pre.length ∧ iv = .int .i64 (1 + (flats pre).length : Nat) ∧ Own slc 1 24 w.heap.size wr ov zs ∧ Elems w.heap.size wr zs (pre.map fun k => flat (nmd [] k)) ∧ Below w.heap.size w wr) (fun _ _ kv _ => q - (intOf kv).toNat)
  case atStart => exact ⟨[], t.ks, [], rfl, rfl, rfl, HO0.out, ⟨rfl, fun k z l h => by simp at h⟩, (Below.refl _ _).alloc (Nat.le_refl _) _⟩
  case round =>
    obtain ⟨pre, post, zs, hpp, rfl, rfl, hown, hels, hb⟩ := hrel
    have a2 := (hb.cell (p := ⟨g, o + 1, none⟩) hg).trans HA1.out
    have HO := Lib.hid hown
    have HE := Lib.hid hels
    have HB := Lib.hid hb
    have HP := Lib.hid hpp
    have hlen : pre.length + post.length = q := by rw [← HQ.out, hpp]; simp
    clear hown hels hb hpp
    cases post with
    | nil =>
      simp only [List.length_nil, Nat.add_zero] at hlen
      have HF : Hid (pre = t.ks) := Lib.hid (by rw [HP.out]; simp)
      have hlt : ¬ (pre.length : Int) < q := by omega
      have HLN := Lib.hid hlen
      clear hlen
      go_wp2_with fail
      go_ret
      exact ⟨_, _, rfl, HO.out, by have := HE.out; rwa [HF.out] at this, HB.out⟩
    | cons u rest =>
      simp only [List.length_cons] at hlen
      have hdr := HDR.out pre (u :: rest) HP.out
      rw [flats_cons] at hdr
      have hoku : okT many u := by have := HKS.out; rw [HP.out, okTs_append, okTs_cons] at this; exact this.2.1
      have hnx := nxt_at hdr hoku
      have hpl := part_lt hdr
      have hup := flat_pos u
      have hlt : (pre.length : Int) < q := by omega
      rw [HN.out] at hpl
      generalize hi : 1 + (flats pre).length = i at *
      generalize hm : (flat u).length = m at *
      have HNX := Lib.hid hnx
      have HDRU : Hid (((flat t).drop i).take (i + m - i) = u.nd :: flats u.ks) := Lib.hid (by
        rw [hdr, show i + m - i = m by omega, ← hm, List.take_left, ← flat_eq])
      have HIX : Hid (1 + (flats (pre ++ [u])).length = i + m) := Lib.hid (by rw [flats_append, flats_cons]; simp; omega)
      have HPL := Lib.hid hlen
      have HUM := Lib.hid hm
      clear hdr hoku hnx hi hm hlen
      have hib : i ≤ n := by omega
      have hOW := refOwn_any (.slice (some ⟨g, o, none⟩) n c) (flat t) i (i + m) u.nd (flats u.ks) wr (HV.out.below HB.out) (by rw [HN.out]; exact hl) (by omega) (by rw [HN.out]; exact hpl) HDRU.out
      rw [Int.natCast_add] at hOW
      have HOW := Lib.hid hOW
      clear hOW
      go_wp2_with (go_at_call 65; refine (refNext_any _ (flat t) i _ (HV.out.below HB.out) (by rw [HN.out]; exact hl) (by rw [HN.out]; exact hib)).mono ?_; rintro e w' ⟨rfl, rfl⟩; rw [HNX.out])
      refine HOW.out.mono ?_
      rintro e w1 ⟨v1, rfl, ho1, hb1⟩
      obtain ⟨A1, c1, rfl, -⟩ := ho1.form
      have HZ : Hid (OwnN w.heap.size w1 (.slice A1 (noName u.nd :: flats u.ks).length c1) (flat (nmd [] u))) := Lib.hid (by rw [nmd, flat_mk]; exact ho1.mono HB.out.size)
      have HO1 := Lib.hid (HO.out.below hb1)
      have HE1 := Lib.hid (HE.out.below hb1)
      have HB1 := Lib.hid (Below.after HB.out hb1)
      clear ho1 hb1 a2
      generalize (noName u.nd :: flats u.ks).length = m2 at HZ ⊢
      have HZL : Hid (zs.length + 1 ≤ 65537) := Lib.hid (by have := HE1.out.1; rw [List.length_map] at this; omega)
      go_wp2_with (at_builtin; refine wpList_append_row (base := w.heap.size) elVal rfl _ _ rfl rfl (HO1.out.alloc _) rfl (row_one slc_len w1 _ rfl 24 #[.slice A1 m2 c1] (A1, m2, c1) rfl) ?_ ?_ ?_ ?_)
      · have := HZL.out; unfold maxLen; simp only [List.length_singleton]; omega
      · have := HZL.out; simp only [List.length_singleton]; omega
      · have := HB1.out.size; simp; omega
      · intro A' c' w2 hown2 hg2 hwh
        clear hwh
        have HO2 : Hid (Own slc 1 24 w.heap.size w2 (.slice A' (zs.length + 1) c') (zs ++ [(A1, m2, c1)])) := Lib.hid hown2
        have HE2 : Hid (Elems w.heap.size w2 (zs ++ [(A1, m2, c1)]) ((pre ++ [u]).map fun k => flat (nmd [] k))) := Lib.hid (by
          have h1 : Elems w.heap.size w2 zs (pre.map fun k => flat (nmd [] k)) := (HE1.out.below ((Below.refl _ _).alloc (Nat.le_refl _) _)).aside (HO1.out.alloc _) hg2
          have h2 : OwnN w.heap.size w2 (.slice A1 m2 c1) (flat (nmd [] u)) := Own.aside (HZ.out.alloc _) (HO1.out.alloc _) (by decide) hg2
          rw [List.map_append]
          exact h1.snoc h2)
        have HB2 : Hid (Below w.heap.size w w2) := Lib.hid ((HB1.out.alloc HB1.out.size _).trans ((HO1.out.alloc _).kept hg2 (by have := HB1.out.size; simp; omega)))
        clear hown2 hg2
        generalize zs.length + 1 = zl at HO2 ⊢
        go_wp2_with fail
        go_roundw
        case rel => exact ⟨pre ++ [u], rest, zs ++ [(A1, m2, c1)], by rw [HP.out]; simp, by simp, by rw [HIX.out]; go_num, HO2.out, HE2.out, HB2.out⟩
        case measure => simp [intOf]; omega

theorem refParts_any (v : Value) (t : Tr Nd) (w : World) (hv : Nds w v (flat t)) (hl : (flat t).length ≤ 65536) (ht : Val t) :
    Calls Tryz.prog 72 #[v] w (GivesV w (t.ks.map fun k => flat (nmd [] k))) :=
  (refParts_own v t w hv hl ht).mono fun _ _ ⟨v', _, h1, h2, h3, h4⟩ => ⟨v', h1, h3.vls (h2.row slc_len), h4⟩

set_option maxRecDepth 100000 in
set_option maxHeartbeats 4000000 in
theorem refNames_own (v : Value) (t : Tr Nd) (w : World) (hv : Nds w v (flat t)) (hl : (flat t).length ≤ 65536) (ht : Val t) :
    Calls Tryz.prog 73 #[v] w (OwnsS w (namesT t)) := by
  have hvo := hv
  obtain ⟨g, o, c, rfl, hc, hcm, hg, hx⟩ := hvo.opened (flat_pos t)
  have hmany : t.nd.many = t.ks.length := (okT_eq.1 ht.ok).1
  have a1 : w.cell? ⟨g, o + 1, none⟩ = some (.int .i64 (t.ks.length : Nat)) := by
    have := (hx 0 t.nd (by rw [flat_eq]; rfl)).nd.c1
    rw [hmany] at this
    simpa using this
  have a0 : w.cell? ⟨g, o, none⟩ = some (.int .i64 t.nd.kind) := by
    have := (hx 0 t.nd (by rw [flat_eq]; rfl)).nd.c0
    simpa using this
  have HA1 := Lib.hid a1
  have HV := Lib.hid hv
  have HXX := Lib.hid hx
  have HKS := Lib.hid (okT_eq.1 ht.ok).2
  have hkl : t.ks.length ≤ 65536 := by
    have h1 := flats_len t.ks
    rw [flat_eq] at hl
    simp at hl
    omega
  have hpos := flat_pos t
  have HDR : Hid (∀ pre post, t.ks = pre ++ post → (flat t).drop (1 + (flats pre).length) = flats post) := Lib.hid (fun pre post h => by
    rw [flat_eq, h, flats_append, Nat.add_comm, List.drop_succ_cons, List.drop_left])
  clear hx hv hvo hmany a1
  generalize hn : (flat t).length = n at *
  have HN := Lib.hid hn
  clear hn
  generalize hq : t.ks.length = q at *
  have HQ := Lib.hid hq
  clear hq
  have HO0 : Hid (Own stc 1 9 w.heap.size (w.alloc (.cells #[] 9)) (.slice (some ⟨w.heap.size, 0, none⟩) 0 0) []) := Lib.hid (by
    have := Own.lit (base := w.heap.size) (E := 9) stc_len w #[] [] (Nat.le_refl _) (by simp) rfl
    simpa using this)
  by_cases hk : t.nd.kind = 6
  · have HNT : Hid (namesT t = t.ks.map fun k => k.nd.name) := Lib.hid (by rw [namesT, if_pos hk])
    rw [hk] at a0
    have HA0 := Lib.hid a0
    clear a0 hk
    go_enter Tryz.func73, Tryz.ntmps73
    go_wp2_with fail
    go_loopw [3, 4, 5] (fun ov iv kv wr => ∃ (pre post : List (Tr Nd)), t.ks = pre ++ post ∧ kv = .int .i64 pre.length ∧ iv = .int .i64 (1 + (flats pre).length : Nat) ∧ Own stc 1 9 w.heap.size wr ov (pre.map fun k => k.nd.name) ∧ Below w.heap.size w wr) (fun _ _ kv _ => q - (intOf kv).toNat)
    case atStart => exact ⟨[], t.ks, rfl, rfl, rfl, HO0.out, (Below.refl _ _).alloc (Nat.le_refl _) _⟩
    case round =>
      obtain ⟨pre, post, hpp, rfl, rfl, hown, hb⟩ := hrel
      have a2 := (hb.cell (p := ⟨g, o + 1, none⟩) hg).trans HA1.out
      have a3 := (hb.cell (p := ⟨g, o, none⟩) hg).trans HA0.out
      have HO := Lib.hid hown
      have HB := Lib.hid hb
      have HP := Lib.hid hpp
      have hlen : pre.length + post.length = q := by rw [← HQ.out, hpp]; simp
      clear hown hpp
      cases post with
      | nil =>
        simp only [List.length_nil, Nat.add_zero] at hlen
        have HF : Hid (pre = t.ks) := Lib.hid (by rw [HP.out]; simp)
        have hlt : ¬ (pre.length : Int) < q := by omega
        clear hlen hb
        go_wp2_with fail
        go_ret
        exact ⟨_, rfl, by rw [HNT.out, ← HF.out]; exact HO.out, HB.out⟩
      | cons u rest =>
        simp only [List.length_cons] at hlen
        have hdr := HDR.out pre (u :: rest) HP.out
        rw [flats_cons] at hdr
        have hoku : okT many u := by have := HKS.out; rw [HP.out, okTs_append, okTs_cons] at this; exact this.2.1
        have hnx := nxt_at hdr hoku
        have hpl := part_lt hdr
        have hup := flat_pos u
        have hlt : (pre.length : Int) < q := by omega
        have hhd := head_at hdr
        rw [HN.out] at hpl
        generalize hi : 1 + (flats pre).length = i at *
        have b2 := (hb.cell (p := ⟨g, o + i * 6 + 2, none⟩) hg).trans (HXX.out i _ hhd).nd.c2
        generalize hm : (flat u).length = m at *
        have HNX := Lib.hid hnx
        have HIX : Hid (1 + (flats (pre ++ [u])).length = i + m) := Lib.hid (by rw [flats_append, flats_cons]; simp; omega)
        have HPL : Hid (pre.length + 1 ≤ 65537) := Lib.hid (by omega)
        have hii : (i : Int) < n := by omega
        have hiin : i < n := by omega
        generalize hnm : u.nd.name = nm at b2
        have HNM := Lib.hid hnm
        have hprel : (pre.map fun k => k.nd.name).length = pre.length := by simp
        generalize hpn : (pre.map fun k => k.nd.name) = pn at HO hprel
        have HPN := Lib.hid hpn
        have HPNL := Lib.hid hprel
        have hlq := hlen
        clear hdr hoku hnx hi hm hlen hhd hnm hpn hprel hb
        have HLQ := Lib.hid hlq
        clear hlq
        go_wp2_with (at_builtin; refine wpList_append_row (base := w.heap.size) elText rfl _ _ rfl rfl (HO.out.alloc _) rfl (row_one stc_len wr _ rfl 9 #[.string ⟨nm.toArray⟩] nm rfl) ?_ ?_ ?_ ?_)
        · have := HPL.out; have := HPNL.out; unfold maxLen; simp only [List.length_singleton]; omega
        · have := HPL.out; have := HPNL.out; simp only [List.length_singleton]; omega
        · have := HB.out.size; simp; omega
        · intro A' c' w2 hown2 hg2 hwh
          clear hwh
          have HO2 : Hid (Own stc 1 9 w.heap.size w2 (.slice A' (pn.length + 1) c') (pn ++ [nm])) := Lib.hid hown2
          have HB2 : Hid (Below w.heap.size w w2) := Lib.hid ((HB.out.alloc HB.out.size _).trans ((HO.out.alloc _).kept hg2 (by have := HB.out.size; simp; omega)))
          clear hown2 hg2
          generalize pn.length + 1 = zl at HO2 ⊢
          have hib : i ≤ n := by omega
          clear a2 a3 b2
          go_wp2_with (go_at_call 65; refine (refNext_any _ (flat t) i _ (HV.out.below HB2.out) (by rw [HN.out]; exact hl) (by rw [HN.out]; exact hib)).mono ?_; rintro e w' ⟨rfl, rfl⟩; rw [HNX.out])
          go_roundw
          case rel => exact ⟨pre ++ [u], rest, by rw [HP.out]; simp, by simp, by rw [HIX.out]; go_num, by rw [List.map_append, HPN.out]; have := HO2.out; rw [← HNM.out] at this; exact this, HB2.out⟩
          case measure => have := HLQ.out; simp [intOf]; omega
  · have HNT : Hid (namesT t = []) := Lib.hid (by rw [namesT, if_neg hk])
    have e6 : (t.nd.kind == 6) = false := by simp [hk]
    have a1 := HA1.out
    clear hk
    go_enter Tryz.func73, Tryz.ntmps73
    go_wp2_with fail
    go_loopw [3, 4, 5] (fun ov iv kv wr => kv = .int .i64 0 ∧ ov = .slice (some ⟨w.heap.size, 0, none⟩) 0 0 ∧ wr = w.alloc (.cells #[] 9)) (fun _ _ _ _ => 0)
    case atStart => exact ⟨rfl, rfl, rfl⟩
    case round =>
      obtain ⟨rfl, rfl, rfl⟩ := hrel
      by_cases hq0 : 0 < q
      · have hq1 : (0 : Int) < q := by omega
        go_wp2_with fail
        go_ret
        exact ⟨_, rfl, by rw [HNT.out]; exact HO0.out, (Below.refl _ _).alloc (Nat.le_refl _) _⟩
      · have hq1 : ¬ (0 : Int) < q := by omega
        go_wp2_with fail
        go_ret
        exact ⟨_, rfl, by rw [HNT.out]; exact HO0.out, (Below.refl _ _).alloc (Nat.le_refl _) _⟩
theorem refNames_any (v : Value) (t : Tr Nd) (w : World) (hv : Nds w v (flat t)) (hl : (flat t).length ≤ 65536) (ht : Val t) :
    Calls Tryz.prog 73 #[v] w (GivesS w (namesT t)) :=
  (refNames_own v t w hv hl ht).mono fun _ _ ⟨v', h1, h2, h4⟩ => ⟨v', h1, h2.row stc_len, h4⟩
end Go.Proofs.YtafbojiojeemoaaGreatDoor

/-
  What the document's own answer Depth is.
-/
namespace Go.Proofs.YtafbojiojeemoaaGreatDoor
open Go.RowKit Np Rw Vp

theorem depths_snoc : ∀ (ts : List (Tr Nd)) (u : Tr Nd), depths (ts ++ [u]) = max (depths ts) (depth u)
  | [], u => by simp
  | t :: ts, u => by rw [List.cons_append, depths_cons, depths_snoc ts u, depths_cons]; omega

mutual
theorem depth_le : ∀ t : Tr Nd, depth t ≤ (flat t).length
  | .mk n ks => by
    have := depths_le2 ks
    rw [depth_mk, flat_mk, List.length_cons]
    split <;> omega
theorem depths_le2 : ∀ ts : List (Tr Nd), depths ts ≤ (flats ts).length
  | [] => by simp
  | t :: ts => by
    have h1 := depth_le t
    have h2 := depths_le2 ts
    rw [depths_cons, flats_cons, List.length_append]
    omega
end

end Go.Proofs.YtafbojiojeemoaaGreatDoor

/-
  The walk of TextBack: it answers true.
-/
namespace Go.Proofs.YtafbojiojeemoaaGreatDoor
open Go.RowKit Np Rw Vp Up Qp Tp

theorem run_plain : ∀ (l : List Nd) (st : List Hd), Vp.run st l = true → ∀ x ∈ l, plainN x = true
  | [], _, _, x, hx => by cases hx
  | n :: l, [], h, x, hx => by simp [Vp.run] at h
  | n :: l, h :: st, hr, x, hx => by
    rw [run_cons, Bool.and_eq_true, Bool.and_eq_true] at hr
    rcases List.mem_cons.1 hx with rfl | hx
    · exact hr.1.2
    · exact run_plain l _ hr.2 x hx
theorem val_plain {t : Tr Nd} (h : Val t) : ∀ x ∈ flat t, plainN x = true := run_plain _ _ (rightL_val h)
theorem fit_plain {n : Nd} (hp : plainN n = true) (h1 : n.name.length ≤ 1000000) (h2 : n.s.length ≤ 1000000) : FitN n := by
  unfold plainN at hp
  split at hp
  · rename_i h
    simp at hp
    exact ⟨by omega, by omega, h2, h1, by omega, by omega⟩
  · split at hp
    · rename_i h
      obtain ⟨b1, b2, b3⟩ := right_bounds hp
      simp only at b2 b3
      exact ⟨by omega, by omega, h2, h1, by omega, by omega⟩
    · split at hp
      · simp at hp
        exact ⟨by omega, by omega, h2, h1, by omega, by omega⟩
      · split at hp
        · simp at hp
          exact ⟨by omega, by omega, h2, h1, by omega, by omega⟩
        · cases hp
theorem fitT_of {t : Tr Nd} (hv : Val t) (hs : ∀ x ∈ flat t, x.name.length ≤ 1000000 ∧ x.s.length ≤ 1000000) (hl : (flat t).length ≤ 1000) : FitT t :=
  ⟨hv.ok, hv.rt, fun x hx => fit_plain (val_plain hv x hx) (hs x hx).1 (hs x hx).2, hl⟩
theorem wS_small : ∀ {l : List Nd}, (∀ x ∈ l, x.name.length ≤ 200 ∧ x.s.length ≤ 200) → wS l ≤ 2400 * l.length
  | [], _ => by simp [wS]
  | x :: l, h => by
    have h1 := wS_small fun y hy => h y (List.mem_cons_of_mem _ hy)
    have h2 := h x (by simp)
    have h3 := (wrs_len x.name).2
    have h4 := (wrs_len x.s).2
    rw [wS_cons, List.length_cons, wN]
    split <;> omega
theorem wN_mem : ∀ {l : List Nd} {x : Nd}, x ∈ l → wN x ≤ wS l
  | y :: l, x, h => by
    rw [wS_cons]
    rcases List.mem_cons.1 h with rfl | h
    · omega
    · have := wN_mem h; omega
theorem sizes_of {l : List Nd} {B : Nat} (hp : ∀ x ∈ l, plainN x = true) (h : wS l ≤ B) (hB : 100 ≤ B) : ∀ x ∈ l, x.name.length ≤ B ∧ x.s.length ≤ B := by
  intro x hx
  have h1 := wN_mem hx
  have h2 := (wrs_len x.name).1
  have h3 := (wrs_len x.s).1
  have h4 := hp x hx
  rw [wN] at h1
  refine ⟨by omega, ?_⟩
  unfold plainN at h4
  split at h4
  · simp at h4; rw [h4.1.1.2]; simp
  · split at h4
    · have := (right_bounds h4).1; simp only at this; omega
    · split at h4
      · rename_i hk; rw [if_pos hk] at h1; omega
      · split at h4
        · simp at h4; rw [h4.1.1.2]; simp
        · cases h4
theorem parse_back (ln : Bool) {t : Tr Nd} (hv : Val t) (hd : depth t ≤ 128) : prsR (prT ln 0 t) = (flat t, 0, 0) := by
  have hb := back ln (prT ln 0 t) _ t 0 128 (Nat.le_refl _) hv.ok hv.rt hd 0 [] [] Blk.nil (by simp) Stop.nil
  have e : nmd [] t = t := by conv => rhs; rw [← nmd_self t, hv.nm]
  simp only [e, List.length_nil, Nat.zero_add] at hb
  exact prs_ok hb (by rw [sk_over (Nat.le_refl _)]; omega)
theorem depth_len (t : Tr Nd) : depth t ≤ (flat t).length := by
  have := depths_le2 t.ks
  rw [depth_eq, flat_eq, List.length_cons]
  split <;> omega

/-- Parse answers this value. -/
def BackE (t : Tr Nd) (w : World) (e : Ending) (w' : World) : Prop :=
  ∃ (A : Option Addr) (m c : Nat), e = .returned (.tuple #[.slice A m c, .int .i64 0, .int .i64 0]) ∧ Hid (Nds w' (.slice A m c) (flat t)) ∧ Hid (Below w.heap.size w w')
theorem back_calls (ln : Bool) {t : Tr Nd} (hv : Val t) (hd : depth t ≤ 128) (hz : (prT ln 0 t).length ≤ 400000) (w : World) (hT : Tv w) :
    Calls Tryz.prog 9 #[.string ⟨(prT ln 0 t).toArray⟩] w (BackE t w) := by
  refine (parse_any ⟨(prT ln 0 t).toArray⟩ w (by rw [mk_size]; exact hz) hT.er hT.tabs hT.wds).mono ?_
  rintro e w' ⟨V, he, hV, hb⟩
  change e = .returned (.tuple #[V, .int .i64 ((prsR (prT ln 0 t)).2.1 : Nat), .int .i64 (prsR (prT ln 0 t)).2.2]) at he
  change OwnN w.heap.size w' V (prsR (prT ln 0 t)).1 at hV
  rw [parse_back ln hv hd] at he hV
  obtain ⟨A, c, rfl, h⟩ := hV.row ndc_len
  exact ⟨A, _, c, he, Lib.hid ⟨A, c, rfl, h⟩, Lib.hid hb⟩
/-- A value's two texts: they are written, and read again as it. -/
structure Texts (t : Tr Nd) (TC TI : ByteArray) : Prop where
  c : ∀ w v, Nds w v (flat t) → Tv w → Calls Tryz.prog 13 #[v] w fun e w' => e = .returned (.string TC) ∧ Below w.heap.size w w'
  i : ∀ w v, Nds w v (flat t) → Tv w → Calls Tryz.prog 15 #[v] w fun e w' => e = .returned (.string TI) ∧ Below w.heap.size w w'
  pc : ∀ w, Tv w → Calls Tryz.prog 9 #[.string TC] w (BackE t w)
  pi : ∀ w, Tv w → Calls Tryz.prog 9 #[.string TI] w (BackE t w)
/-- What is known of a value that has few nodes. -/
structure Known (t : Tr Nd) : Prop where
  val : Val t
  dep : depth t ≤ 60
  len : (flat t).length ≤ 60
  sh : ∀ x ∈ flat t, x.name.length ≤ 200 ∧ x.s.length ≤ 200
  zc : (prT false 0 t).length ≤ 170000
  zi : (prT true 0 t).length ≤ 170000
theorem texts_known {l : List Nd} (h : few 60 l = true) : ∃ t, l = flat t ∧ Known t ∧ Texts t ⟨(prT false 0 t).toArray⟩ ⟨(prT true 0 t).toArray⟩ := by
  unfold few at h
  rw [Bool.and_eq_true, Bool.and_eq_true] at h
  obtain ⟨⟨h1, h2⟩, h3⟩ := h
  have h1 := of_decide_eq_true h1
  obtain ⟨t, hv, rfl⟩ := val_of_rightL h3
  have hs : ∀ x ∈ flat t, x.name.length ≤ 200 ∧ x.s.length ≤ 200 := by
    intro x hx
    have := List.all_eq_true.1 h2 x hx
    simp [shortN] at this
    exact ⟨this.2, this.1⟩
  have hF : FitT t := fitT_of hv (fun x hx => ⟨by have := (hs x hx).1; omega, by have := (hs x hx).2; omega⟩) (by omega)
  have hd := depth_len t
  have hw := wS_small hs
  have hc := compact_len hv.ok hv.rt
  have hi := indent_len hv.ok hv.rt (D := 60) (by omega)
  refine ⟨t, rfl, ⟨hv, by omega, by omega, hs, by omega, by omega⟩, fun w v hv2 hT => compact_any t v w hF hv2 (by omega) hT.pow hT.wds, fun w v hv2 hT => indent_any t v w hF hv2 (by omega) hT.pow hT.wds, fun w hT => back_calls false hv (by omega) (by omega) w hT, fun w hT => back_calls true hv (by omega) (by omega) w hT⟩
theorem texts_of {l : List Nd} (h : few 60 l = true) : ∃ t TC TI, l = flat t ∧ Texts t TC TI := by
  obtain ⟨t, h1, -, h2⟩ := texts_known h
  exact ⟨t, _, _, h1, h2⟩
theorem same_true (va vb : Value) (l : List Nd) (w : World) (ha : Nds w va l) (hb : Nds w vb l) : Calls Tryz.prog 11 #[va, vb] w fun e w' => e = .returned (.bool true) ∧ Below w.heap.size w w' := by
  have := refSame_any va vb l l w ha hb
  rwa [decide_eq_true (rfl : l = l)] at this
end Go.Proofs.YtafbojiojeemoaaGreatDoor

/-
  Plain words: whole numbers' figures. No program stands here.
-/
namespace Go.Proofs.YtafbojiojeemoaaGreatDoor
namespace Np
open Go.RowKit

/-- The worth of some figures, with so many places. -/
def wide : List UInt8 → Nat → Nat
  | [], _ => 0
  | c :: t, n => (c.toNat - 48) * 10 ^ (n - 1) + wide t (n - 1)
theorem wide_lt : ∀ (l : List UInt8) (n : Nat), figs l = true → l.length ≤ n → wide l n < 10 ^ n
  | [], n, _, _ => by simp [wide]; exact Nat.pow_pos (by decide)
  | c :: t, n, h, hl => by
    obtain ⟨m, rfl⟩ : ∃ m, n = m + 1 := ⟨n - 1, by simp at hl; omega⟩
    have hc := (fig_iff c).1 (fig_head h rfl)
    have ht : figs t = true := by simp [figs] at h ⊢; exact h.2
    have := wide_lt t m ht (by simpa using hl)
    unfold wide
    rw [Nat.add_sub_cancel, Nat.pow_succ]
    have hle : (c.toNat - 48) * 10 ^ m ≤ 9 * 10 ^ m := Nat.mul_le_mul_right _ (by omega)
    omega
theorem wide_pos : ∀ (l : List UInt8) (n : Nat), l ≠ [] → l.getLastD 0 ≠ 48 → figs l = true → l.length ≤ n → 0 < wide l n
  | [], _, h, _, _, _ => absurd rfl h
  | c :: t, n, _, hla, h, hl => by
    obtain ⟨m, rfl⟩ : ∃ m, n = m + 1 := ⟨n - 1, by simp at hl; omega⟩
    have hc := (fig_iff c).1 (fig_head h rfl)
    have ht : figs t = true := by simp [figs] at h ⊢; exact h.2
    unfold wide
    rw [Nat.add_sub_cancel]
    cases t with
    | nil =>
      have h48 : c ≠ 48 := by simpa using hla
      have : 48 < c.toNat := by
        rcases Nat.lt_or_ge 48 c.toNat with h | h
        · exact h
        · exact absurd (UInt8.toNat_inj.1 (by show c.toNat = (48 : UInt8).toNat; simp; omega)) h48
      have := Nat.mul_pos (show 0 < c.toNat - 48 by omega) (Nat.pow_pos (n := m) (show 0 < 10 by decide))
      omega
    | cons a r =>
      have := wide_pos (a :: r) m (by simp) (by simpa using hla) ht (by simpa using hl)
      omega
/-- Of figures without noughts behind, which are greater, byte by byte, is as they are worth with so many places. -/
theorem wide_lex : ∀ (a b : List UInt8) (n : Nat), figs a = true → figs b = true → (a = [] ∨ a.getLastD 0 ≠ 48) → (b = [] ∨ b.getLastD 0 ≠ 48) → a.length ≤ n → b.length ≤ n → (a < b ↔ wide a n < wide b n)
  | [], [], n, _, _, _, _, _, _ => by simp [wide]
  | [], b :: u, n, _, hb, _, hlb, _, hl => by
    have := wide_pos (b :: u) n (by simp) (by rcases hlb with h | h; (cases h); exact h) hb hl
    simp only [wide] at this ⊢
    constructor
    · intro _; exact this
    · intro _; exact List.nil_lt_cons _ _
  | a :: t, [], n, ha, _, hla, _, hl, _ => by
    simp [wide]
  | a :: t, b :: u, n, ha, hb, hla, hlb, hl1, hl2 => by
    obtain ⟨m, rfl⟩ : ∃ m, n = m + 1 := ⟨n - 1, by simp at hl1; omega⟩
    have hca := (fig_iff a).1 (fig_head ha rfl)
    have hcb := (fig_iff b).1 (fig_head hb rfl)
    have hta : figs t = true := by simp [figs] at ha ⊢; exact ha.2
    have htb : figs u = true := by simp [figs] at hb ⊢; exact hb.2
    have l1 := wide_lt t m hta (by simpa using hl1)
    have l2 := wide_lt u m htb (by simpa using hl2)
    have hla' : t = [] ∨ t.getLastD 0 ≠ 48 := by
      cases t with
      | nil => exact .inl rfl
      | cons x y => right; rcases hla with h | h; (cases h); simpa using h
    have hlb' : u = [] ∨ u.getLastD 0 ≠ 48 := by
      cases u with
      | nil => exact .inl rfl
      | cons x y => right; rcases hlb with h | h; (cases h); simpa using h
    have ih := wide_lex t u m hta htb hla' hlb' (by simpa using hl1) (by simpa using hl2)
    rw [List.cons_lt_cons_iff]
    unfold wide
    rw [Nat.add_sub_cancel]
    have e : a = b ↔ a.toNat = b.toNat := UInt8.toNat_inj.symm
    have e2 : a < b ↔ a.toNat < b.toNat := UInt8.lt_iff_toNat_lt
    rw [e, e2, ih]
    rcases Nat.lt_trichotomy a.toNat b.toNat with h | h | h
    · have : (a.toNat - 48) * 10 ^ m + 10 ^ m ≤ (b.toNat - 48) * 10 ^ m := by
        rw [← Nat.succ_mul]; exact Nat.mul_le_mul_right _ (by omega)
      constructor
      · intro _; omega
      · intro _; exact .inl h
    · rw [h]; omega
    · have : (b.toNat - 48) * 10 ^ m + 10 ^ m ≤ (a.toNat - 48) * 10 ^ m := by
        rw [← Nat.succ_mul]; exact Nat.mul_le_mul_right _ (by omega)
      constructor
      · rintro (h' | ⟨h', _⟩) <;> omega
      · intro h'; omega
theorem wide_snoc : ∀ (l : List UInt8) (c : UInt8), wide (l ++ [c]) (l.length + 1) = 10 * wide l l.length + (c.toNat - 48)
  | [], c => by simp [wide]
  | a :: t, c => by
    have ih := wide_snoc t c
    show (a.toNat - 48) * 10 ^ (t.length + 1 + 1 - 1) + wide (t ++ [c]) (t.length + 1 + 1 - 1) = 10 * ((a.toNat - 48) * 10 ^ (t.length + 1 - 1) + wide t (t.length + 1 - 1)) + (c.toNat - 48)
    rw [Nat.add_sub_cancel, Nat.add_sub_cancel, ih, Nat.pow_succ, ← Nat.mul_assoc]
    generalize (a.toNat - 48) * 10 ^ t.length = z
    omega
theorem wide_worth (l : List UInt8) : wide l l.length = worth l := by
  induction hn : l.length generalizing l with
  | zero => rw [List.length_eq_zero_iff.1 hn]; rfl
  | succ n ih =>
    rcases List.eq_nil_or_concat l with h | ⟨q, b, h⟩
    · rw [h] at hn; cases hn
    · rw [List.concat_eq_append] at h
      subst h
      have hq : q.length = n := by simpa using hn
      rw [← hq, wide_snoc, worth_snoc]
      rw [hq, ih q hq]
theorem wide_behind : ∀ (l : List UInt8) (b : Nat), wide (l ++ noughts b) (l.length + b) = wide l (l.length + b)
  | [], b => by
    simp only [List.nil_append, List.length_nil, Nat.zero_add]
    induction b with
    | zero => rfl
    | succ b ih =>
      rw [show noughts (b + 1) = 48 :: noughts b by simp [noughts, List.replicate_succ]]
      unfold wide at ih ⊢
      rw [Nat.add_sub_cancel]
      simp
      cases b with
      | zero => rfl
      | succ b => exact ih
  | a :: t, b => by
    have ih := wide_behind t b
    show (a.toNat - 48) * 10 ^ (t.length + 1 + b - 1) + wide (t ++ noughts b) (t.length + 1 + b - 1) = (a.toNat - 48) * 10 ^ (t.length + 1 + b - 1) + wide t (t.length + 1 + b - 1)
    rw [show t.length + 1 + b - 1 = t.length + b by omega, ih]

/-- A whole number's node. -/
def intN (neg : Bool) (u : Nat) : Nd := if u = 0 then nought else mkN neg (Lib.decDigits u) 0
theorem dec_len_lt (u : Nat) : u < 10 ^ (Lib.decDigits u).length ∧ (0 < u → 10 ^ ((Lib.decDigits u).length - 1) ≤ u) := by
  induction u using Nat.strongRecOn with
  | _ u ih =>
    rw [Lib.decDigits]
    split
    · rename_i h
      simp
      exact ⟨h, fun h => h⟩
    · rename_i h
      obtain ⟨i1, i2⟩ := ih (u / 10) (by omega)
      have i2 := i2 (by omega)
      rw [List.length_append]
      simp only [List.length_cons, List.length_nil, Nat.zero_add, Nat.add_sub_cancel]
      have hp : 0 < (Lib.decDigits (u / 10)).length := List.length_pos_iff.2 (dec_worth (u / 10)).2.2
      obtain ⟨m, hm⟩ : ∃ m, (Lib.decDigits (u / 10)).length = m + 1 := ⟨(Lib.decDigits (u / 10)).length - 1, by omega⟩
      rw [hm] at i1 i2 ⊢
      rw [Nat.add_sub_cancel] at i2
      rw [Nat.pow_succ (m := m + 1), Nat.pow_succ (m := m)]
      rw [Nat.pow_succ] at i1
      generalize 10 ^ m = z at *
      omega
theorem dec_head {u : Nat} (h : 0 < u) : ∃ c t, Lib.decDigits u = c :: t ∧ c ≠ 48 := by
  induction u using Nat.strongRecOn with
  | _ u ih =>
    rw [Lib.decDigits]
    split
    · rename_i h10
      refine ⟨_, [], rfl, fun e => ?_⟩
      have := congrArg UInt8.toNat e
      rw [dig_nat u h10] at this
      simp at this
      omega
    · obtain ⟨c, t, e, hc⟩ := ih (u / 10) (by omega) (by omega)
      rw [e]
      exact ⟨c, t ++ _, rfl, hc⟩
theorem dec_ten (u : Nat) (h : u ≤ 2147483648) : (Lib.decDigits u).length ≤ 10 := by
  rcases Nat.lt_or_ge 10 (Lib.decDigits u).length with h1 | h1
  · by_cases h0 : 0 < u
    · have h2 := (dec_len_lt u).2 h0
      have h3 : 10 ^ 10 ≤ 10 ^ ((Lib.decDigits u).length - 1) := Nat.pow_le_pow_right (by decide) (by omega)
      omega
    · rw [show u = 0 by omega] at h1
      rw [Lib.decDigits] at h1
      simp at h1
  · exact h1

theorem trimRight_split (l : List UInt8) : l = Lib.trimRightB l 48 ++ noughts (l.length - (Lib.trimRightB l 48).length) := by
  induction hn : l.length generalizing l with
  | zero => rw [List.length_eq_zero_iff.1 hn]; rfl
  | succ n ih =>
    rcases List.eq_nil_or_concat l with h | ⟨q, b, h⟩
    · rw [h] at hn; cases hn
    · rw [List.concat_eq_append] at h
      subst h
      have hq : q.length = n := by simpa using hn
      by_cases hb : b = 48
      · subst hb
        have e : Lib.trimRightB (q ++ [48]) 48 = Lib.trimRightB q 48 := by simp [Lib.trimRightB]
        have hle : (Lib.trimRightB q 48).length ≤ n := by
          rw [← hq, Lib.trimRightB, List.length_reverse]
          exact Nat.le_trans (List.dropWhile_suffix _).length_le (by simp)
        rw [e, show n + 1 - (Lib.trimRightB q 48).length = (n - (Lib.trimRightB q 48).length) + 1 by omega]
        have := ih q hq
        rw [show noughts (n - (Lib.trimRightB q 48).length + 1) = noughts (n - (Lib.trimRightB q 48).length) ++ [48] by simp [noughts, List.replicate_succ'], ← List.append_assoc, ← this]
      · rw [trimRight_snoc q b hb, hn]
        simp [noughts]
/-- What a whole number is made of. -/
theorem int_parts (neg : Bool) {u : Nat} (hu : 0 < u) (hm : u ≤ 2147483648) : ∃ (f : List UInt8) (b : Nat), intN neg u = ⟨3, 0, [], f, neg, b⟩ ∧ Lib.decDigits u = f ++ noughts b ∧ f.length + b ≤ 10 ∧ f ≠ [] ∧ f.getLastD 0 ≠ 48 ∧ figs f = true ∧ right (intN neg u) = true ∧ mk neg (Lib.decDigits u) 0 = (intN neg u, 0) := by
  obtain ⟨c, t, hct, hc⟩ := dec_head hu
  obtain ⟨w1, w2, w3⟩ := dec_worth u
  have h10 := dec_ten u hm
  have tl : Lib.trimLeftB (Lib.decDigits u) 48 = Lib.decDigits u := by rw [hct]; simp [Lib.trimLeftB, hc]
  have hne : Lib.trimRightB (Lib.decDigits u) 48 ≠ [] := by rw [hct]; exact trimRight_ne hc
  have hs := trimRight_split (Lib.decDigits u)
  have hle : (Lib.trimRightB (Lib.decDigits u) 48).length ≤ (Lib.decDigits u).length := by
    have := (trim_len (Lib.decDigits u)).1
    rwa [tl] at this
  have he := mkN_e neg (Lib.decDigits u) 0 (by omega) (by omega) (by omega)
  rw [tl] at he
  have hN : intN neg u = ⟨3, 0, [], Lib.trimRightB (Lib.decDigits u) 48, neg, ((Lib.decDigits u).length - (Lib.trimRightB (Lib.decDigits u) 48).length : Nat)⟩ := by
    unfold intN
    rw [if_neg (by omega)]
    have : mkN neg (Lib.decDigits u) 0 = ⟨3, 0, [], Lib.trimRightB (Lib.trimLeftB (Lib.decDigits u) 48) 48, neg, (mkN neg (Lib.decDigits u) 0).e⟩ := rfl
    rw [this, he, tl]
    simp
  have hR : right (mkN neg (Lib.decDigits u) 0) = true := by
    rw [mkN_right neg _ 0 w2 (by rw [tl]; exact w3), tl, he]
    simp only [Bool.and_eq_true, decide_eq_true_eq]
    omega
  have hI : intN neg u = mkN neg (Lib.decDigits u) 0 := by unfold intN; rw [if_neg (by omega)]
  refine ⟨_, _, hN, hs, by omega, hne, trimRight_last _ hne, figs_trimRight w2, by rw [hI]; exact hR, ?_⟩
  rw [mk_ok neg _ 0 w2 (by rw [tl, hct]; rfl) hR, hI]
theorem int_zero : mk false (Lib.decDigits 0) 0 = (intN false 0, 0) ∧ right (intN false 0) = true ∧ printN (intN false 0).s (intN false 0).neg (intN false 0).e = Lib.decDigits 0 ∧ readF (Lib.decDigits 0) = (intN false 0, 0, 0) := by
  have : Lib.decDigits 0 = [48] := by rw [Lib.decDigits]; rfl
  rw [this]
  decide +kernel
theorem int_all (neg : Bool) (u : Nat) (hn : neg = true → 0 < u) (hm : u ≤ 2147483648) : mk neg (Lib.decDigits u) 0 = (intN neg u, 0) ∧ right (intN neg u) = true ∧ printN (intN neg u).s (intN neg u).neg (intN neg u).e = (if neg = true then [45] else []) ++ Lib.decDigits u ∧ readF ((if neg = true then [45] else []) ++ Lib.decDigits u) = (intN neg u, 0, 0) := by
  by_cases hu : 0 < u
  · obtain ⟨f, b, h1, h2, h3, h4, h5, h6, h7, h8⟩ := int_parts neg hu hm
    obtain ⟨c, t, hct, hc⟩ := dec_head hu
    obtain ⟨w1, w2, w3⟩ := dec_worth u
    have hp : printN (intN neg u).s (intN neg u).neg (intN neg u).e = (if neg = true then [45] else []) ++ Lib.decDigits u := by
      have hS : printS f (b : Int) = f ++ noughts b := by
        unfold printS
        rw [if_neg (by simpa using h4), if_pos (by omega), repeat_noughts, show ((b : Nat) : Int).toNat = b by omega]
      rw [h1, h2]
      show printN f neg b = _
      unfold printN
      rw [hS]
      cases neg <;> simp
    refine ⟨h8, h7, hp, ?_⟩
    rw [← hp]
    exact print_back h7
  · obtain rfl : u = 0 := by omega
    cases neg
    · exact int_zero
    · exact absurd (hn rfl) hu
/-- Which of two whole numbers is greater. -/
theorem int_size {u v : Nat} {f g : List UInt8} {b d : Nat} (hu : 0 < u) (hv : 0 < v) (e1 : Lib.decDigits u = f ++ noughts b) (e2 : Lib.decDigits v = g ++ noughts d) (f1 : figs f = true) (g1 : figs g = true) (f2 : f.getLastD 0 ≠ 48) (g2 : g.getLastD 0 ≠ 48) :
    cmpSz f b g d = -1 ↔ u < v := by
  have lu : (Lib.decDigits u).length = f.length + b := by rw [e1, List.length_append]; simp [noughts]
  have lv : (Lib.decDigits v).length = g.length + d := by rw [e2, List.length_append]; simp [noughts]
  have du := dec_len_lt u
  have dv := dec_len_lt v
  have du2 := du.2 hu
  have dv2 := dv.2 hv
  have i1 := cmpI_lt (f.length + b) (g.length + d)
  have i2 := cmpI_eq (f.length + b) (g.length + d)
  have i3 := cmpI_gt (f.length + b) (g.length + d)
  unfold cmpSz
  rcases Nat.lt_trichotomy (f.length + b) (g.length + d) with h | h | h
  · rw [if_neg (fun e => by have := i2.1 e; omega), i1]
    constructor
    · intro _
      have : 10 ^ (Lib.decDigits u).length ≤ 10 ^ ((Lib.decDigits v).length - 1) := Nat.pow_le_pow_right (by decide) (by omega)
      omega
    · intro _; omega
  · rw [if_pos (i2.2 (by omega)), cmpB_lt]
    have k1 : wide f (f.length + b) = u := by
      rw [← wide_behind, ← e1, ← lu, wide_worth, (dec_worth u).1]
    have k2 : wide g (f.length + b) = v := by
      rw [h, ← wide_behind, ← e2, ← lv, wide_worth, (dec_worth v).1]
    rw [wide_lex f g (f.length + b) f1 g1 (.inr f2) (.inr g2) (by omega) (by omega), k1, k2]
  · rw [if_neg (fun e => by have := i2.1 e; omega)]
    constructor
    · intro e; have := i1.1 e; omega
    · intro _
      have : 10 ^ (Lib.decDigits v).length ≤ 10 ^ ((Lib.decDigits u).length - 1) := Nat.pow_le_pow_right (by decide) (by omega)
      omega
theorem int_cmp (n1 n2 : Bool) (u v : Nat) (h1 : n1 = true → 0 < u) (h2 : n2 = true → 0 < v) (m1 : u ≤ 2147483648) (m2 : v ≤ 2147483648) :
    cmpN (intN n1 u).s (intN n1 u).neg (intN n1 u).e (intN n2 v).s (intN n2 v).neg (intN n2 v).e < 0 ↔ (if n1 = true then -(u : Int) else u) < (if n2 = true then -(v : Int) else v) := by
  have sg : ∀ (n : Bool) (w : Nat), (n = true → 0 < w) → w ≤ 2147483648 → sgn (intN n w).s (intN n w).neg = if w = 0 then 0 else if n = true then -1 else 1 := by
    intro n w hn hw
    by_cases h0 : w = 0
    · subst h0
      have : n = false := by cases n with | false => rfl | true => exact absurd (hn rfl) (by omega)
      subst this
      rw [if_pos rfl]; decide
    · obtain ⟨f, b, e1, _, _, e4, _⟩ := int_parts n (u := w) (by omega) hw
      rw [e1, if_neg h0]
      unfold sgn
      rw [if_neg (by simpa using e4)]
  have s1 := sg n1 u h1 m1
  have s2 := sg n2 v h2 m2
  have hr := cmpN_range (intN n1 u).s (intN n1 u).neg (intN n1 u).e (intN n2 v).s (intN n2 v).neg (intN n2 v).e
  have i1 := cmpI_lt (sgn (intN n1 u).s (intN n1 u).neg) (sgn (intN n2 v).s (intN n2 v).neg)
  have i2 := cmpI_eq (sgn (intN n1 u).s (intN n1 u).neg) (sgn (intN n2 v).s (intN n2 v).neg)
  have i3 := compareInt_cases (sgn (intN n1 u).s (intN n1 u).neg) (sgn (intN n2 v).s (intN n2 v).neg)
  unfold cmpN
  by_cases hs : sgn (intN n1 u).s (intN n1 u).neg = sgn (intN n2 v).s (intN n2 v).neg
  · rw [if_pos (i2.2 hs), s1]
    rw [s1, s2] at hs
    by_cases hu : u = 0
    · have hv : v = 0 := by
        rw [if_pos hu] at hs
        by_cases hv : v = 0
        · exact hv
        · rw [if_neg hv] at hs; split at hs <;> omega
      rw [if_pos hu, hu, hv]
      simp
    · have hv : v ≠ 0 := by
        intro hv
        rw [if_neg hu, if_pos hv] at hs; split at hs <;> omega
      rw [if_neg hu] at hs ⊢
      rw [if_neg hv] at hs
      obtain ⟨f, b, a1, a2, _, a4, a5, a6, _⟩ := int_parts n1 (u := u) (by omega) m1
      obtain ⟨g, d, c1, c2, _, c4, c5, c6, _⟩ := int_parts n2 (u := v) (by omega) m2
      rw [a1, c1]
      simp only
      have z1 := int_size (show 0 < u by omega) (show 0 < v by omega) a2 c2 a6 c6 a5 c5
      have z2 := int_size (show 0 < v by omega) (show 0 < u by omega) c2 a2 c6 a6 c5 a5
      have z3 := cmpSz_neg f b g d
      have z4 := cmpSz_cases f b g d
      cases n1 <;> cases n2 <;> simp only [Bool.false_eq_true, if_false, if_true] at hs ⊢
      · omega
      · omega
      · omega
      · omega
  · rw [if_neg (fun e => hs (i2.1 e))]
    rw [s1, s2] at i1 i3 hs ⊢
    by_cases hu : u = 0 <;> by_cases hv : v = 0 <;> cases n1 <;> cases n2 <;> simp only [hu, hv, Bool.false_eq_true, if_false, if_true, not_true_eq_false] at i1 i3 hs h1 h2 ⊢ <;> omega

end Np
end Go.Proofs.YtafbojiojeemoaaGreatDoor

/-
  A byte as a text, and what stands behind it.
-/
namespace Go.Proofs.YtafbojiojeemoaaGreatDoor
open Go.RowKit Np

theorem byte_sum (n : Nat) (acc : List UInt8) : ByteArray.mk #[48 + UInt8.ofNat n] ++ ByteArray.mk acc.toArray = ByteArray.mk (UInt8.ofNat (48 + n) :: acc).toArray :=
  ByteArray.ext (by simp [UInt8.ofNat_add])
theorem one_byte (W : World) (v : Int) : (convert 63 9 (.slice (some ⟨W.heap.size, 0, none⟩) 1 1)).run Tryz.prog (W.alloc (.cells #[.int .u8 v] 5)) = .ok (.string ⟨#[UInt8.ofNat v.toNat]⟩) (W.alloc (.cells #[.int .u8 v] 5)) :=
  run_convert_bytes_arg _ 63 5 Tryz.underlying63 Tryz.underlying5 W.heap.size 0 1 1 [v] rfl (fun i hi => by
    obtain rfl : i = 0 := by omega
    simp) 9 Tryz.underlying9
end Go.Proofs.YtafbojiojeemoaaGreatDoor

/-
  What the document's own answer decimal is: a whole number's text.
-/
namespace Go.Proofs.YtafbojiojeemoaaGreatDoor
open Go.RowKit Np

/-- Figures taken so far, and what is left ahead of them. -/
def Ahead (u M : Nat) (acc : List UInt8) : Prop := (M < 10 ∧ Lib.decDigits u = acc) ∨ (10 ≤ M ∧ Lib.decDigits u = Lib.decDigits (M / 10) ++ acc)
theorem Ahead.first (u : Nat) : Ahead u u [UInt8.ofNat (48 + u % 10)] := by
  by_cases h : u < 10
  · left; exact ⟨h, by rw [Lib.decDigits_one h, Nat.mod_eq_of_lt h]⟩
  · right
    exact ⟨by omega, by conv => lhs; rw [Lib.decDigits, dif_neg h]⟩
theorem Ahead.step {u M : Nat} {acc : List UInt8} (h : Ahead u M acc) (hM : 10 ≤ M) : Ahead u (M / 10) (UInt8.ofNat (48 + M / 10 % 10) :: acc) := by
  rcases h with ⟨h1, _⟩ | ⟨_, h2⟩
  · omega
  · by_cases h : M / 10 < 10
    · left; exact ⟨h, by rw [h2, Lib.decDigits_one h, Nat.mod_eq_of_lt h]; rfl⟩
    · right
      have e : Lib.decDigits (M / 10) = Lib.decDigits (M / 10 / 10) ++ [UInt8.ofNat (48 + M / 10 % 10)] := by conv => lhs; rw [Lib.decDigits, dif_neg h]
      exact ⟨by omega, by rw [h2, e, List.append_assoc]; rfl⟩
theorem Ahead.len {u M : Nat} {acc : List UInt8} (h : Ahead u M acc) (hu : u ≤ 2147483648) : acc.length ≤ 10 := by
  have := dec_ten u hu
  rcases h with ⟨_, h3⟩ | ⟨_, h3⟩
  · rw [← h3]; exact this
  · rw [h3, List.length_append] at this; omega

set_option maxRecDepth 100000 in
set_option maxHeartbeats 1000000 in
theorem decimal_pos (u : Nat) (w : World) (hu : u ≤ 2147483648) :
    Calls Tryz.prog 149 #[.int .i64 u] w fun e w' => e = .returned (.string ⟨(Lib.decDigits u).toArray⟩) ∧ Below w.heap.size w w' := by
  have hB : Below w.heap.size w w := Below.refl _ _
  have hcv := one_byte
  have HA0 := Lib.hid (Ahead.first u)
  go_enter Tryz.func149, Tryz.ntmps149
  go_wp2_with fail
  go_loopw [0, 3] (fun a b wr => ∃ (M : Nat) (acc : List UInt8), a = .int .i64 M ∧ b = .string ⟨acc.toArray⟩ ∧ Hid (Ahead u M acc) ∧ M ≤ 2147483648 ∧ Below w.heap.size w wr) (fun a _ _ => (intOf a).toNat)
  case atStart => exact ⟨u, _, rfl, congrArg (fun c => Value.string ⟨#[c]⟩) (by simp [UInt8.ofNat_add]), HA0, hu, hB.alloc (Nat.le_refl _) _⟩
  case round =>
    obtain ⟨M, acc, rfl, rfl, HTk, hM, hb⟩ := hrel
    have hacc := HTk.out.len hu
    by_cases hg : 10 ≤ M
    · have HN := Lib.hid (HTk.out.step hg)
      have HBS := Lib.hid (byte_sum (M / 10 % 10) acc)
      go_wp2_with fail
      go_roundw
      case rel => exact ⟨M / 10, _, by go_num, congrArg Value.string HBS.out, HN, by omega, hb.alloc hb.size _⟩
      case measure => simp [intOf]; omega
    · have HA : Hid (Lib.decDigits u = acc) := Lib.hid (by
        rcases HTk.out with ⟨_, h⟩ | ⟨h, _⟩
        · exact h
        · omega)
      go_wp2_with fail
      go_ret
      exact ⟨ret_str (by rw [HA.out]), hb⟩

set_option maxRecDepth 100000 in
set_option maxHeartbeats 1000000 in
theorem decimal_neg : ∀ (u : Nat), 0 < u → u ≤ 2147483648 → ∀ w : World,
    Calls Tryz.prog 149 #[.int .i64 (-(u : Int))] w fun e w' => e = .returned (.string ⟨(45 :: Lib.decDigits u).toArray⟩) ∧ Below w.heap.size w w' := by
  intro u
  induction u using Nat.strongRecOn with
  | _ u ih =>
    intro h0 hu w
    have hB : Below w.heap.size w w := Below.refl _ _
    have hcv := any_byte
    by_cases h10 : u < 10
    · have HV := Lib.hid (Lib.decDigits_one h10)
      clear ih
      go_enter Tryz.func149, Tryz.ntmps149
      go_wp2_with fail
      go_ret
      refine ⟨?_, hB.alloc (Nat.le_refl _) _⟩
      rw [HV.out]
      simp
      exact ByteArray.ext (by simp)
    · obtain ⟨q, hq⟩ : ∃ q, u / 10 = q := ⟨_, rfl⟩
      obtain ⟨r, hr⟩ : ∃ r, u % 10 = r := ⟨_, rfl⟩
      have HV : Hid (Lib.decDigits u = Lib.decDigits q ++ [UInt8.ofNat (48 + r)]) := Lib.hid (by conv => lhs; rw [Lib.decDigits, dif_neg h10, hq, hr])
      have HI := Lib.hid (ih q (by omega) (by omega) (by omega))
      have hql : (Lib.decDigits q).length ≤ 10 := dec_ten q (by omega)
      have ht : (-(u : Int)).tdiv 10 = -(q : Int) := by
        rw [Int.neg_tdiv, Int.tdiv_eq_ediv_of_nonneg (by omega)]; omega
      have hm : (-(u : Int)).tmod 10 = -(r : Int) := by
        rw [Int.neg_tmod, Int.tmod_eq_emod_of_nonneg (by omega)]; omega
      have hr10 : r < 10 := by omega
      have hun : (u : Int) ≥ 10 := by omega
      have hwq : IntKind.i64.wrap (-(q : Int)) = -(q : Int) := IntWalk.i64_in _ ⟨by omega, by omega⟩
      have hwr : IntKind.i64.wrap (-(r : Int)) = -(r : Int) := IntWalk.i64_in _ ⟨by omega, by omega⟩
      have hws : IntKind.i64.wrap (48 - -(r : Int)) = 48 + (r : Int) := (IntWalk.i64_in _ ⟨by omega, by omega⟩).trans (by omega)
      have hws2 : IntKind.i64.wrap (48 + (r : Int)) = 48 + (r : Int) := IntWalk.i64_in _ ⟨by omega, by omega⟩
      have hwu : IntKind.u8.wrap (48 + (r : Int)) = 48 + (r : Int) := IntWalk.u8_in _ ⟨by omega, by omega⟩
      clear ih hq hr
      go_enter Tryz.func149, Tryz.ntmps149
      go_upto_region 4 with fail
      go_region_with (first | (go_at_call 149; ((with_reducible refine (HI.out _).mono ?_); rintro e3 w3 ⟨rfl, hb3⟩; obtain ⟨hc3, hf3⟩ := kept_cells hb3; have hz3 := hb3.size)))
      all_goals
        go_wp2_with fail
        go_ret
        refine ⟨ret_str (a := ByteArray.mk (45 :: Lib.decDigits q).toArray ++ ByteArray.mk #[48 + UInt8.ofNat r]) ?_, ?_⟩
        · rw [HV.out]
          exact ByteArray.ext (by simp [UInt8.ofNat_add])
        · first
            | exact (hB.drew.trans hb3).alloc hb3.size _
            | exact (hB.drew.alloc (Nat.le_refl _) _).trans (hb3.mono (by simp))

end Go.Proofs.YtafbojiojeemoaaGreatDoor

/-
  What the document's own answer Print is: as num's.
-/
namespace Go.Proofs.YtafbojiojeemoaaGreatDoor
open Go.RowKit Np

theorem nought_ahead1 (i : Nat) (l : List UInt8) : ByteArray.mk #[48] ++ ByteArray.mk (noughts i ++ l).toArray = ByteArray.mk (noughts (i + 1) ++ l).toArray :=
  ByteArray.ext (by simp [noughts, List.replicate_succ])
theorem nought_behind1 (i : Nat) (l : List UInt8) : ByteArray.mk (l ++ noughts i).toArray ++ ByteArray.mk #[48] = ByteArray.mk (l ++ noughts (i + 1)).toArray :=
  ByteArray.ext (by simp [noughts, List.replicate_succ'])
theorem noughts_len1 (i : Nat) : (noughts i).length = i := by simp [noughts]

/-- How the document's Print ends. -/
def PrintEnd (w : World) (t : List UInt8) (e : Ending) (w' : World) : Prop := e = .returned (.string ⟨t.toArray⟩) ∧ Below w.heap.size w w'
theorem printEnd_of {w w' : World} {t : List UInt8} {b : ByteArray} (h : b = ⟨t.toArray⟩) (hb : Below w.heap.size w w') : PrintEnd w t (.returned (.string b)) w' := ⟨by rw [h], hb⟩

set_option maxRecDepth 100000 in
set_option maxHeartbeats 4000000 in
theorem refPrint_any (k m : Int) (nm s : ByteArray) (g : Bool) (x : Int) (w : World) (hr : right ⟨k, m, nm.data.toList, s.data.toList, g, x⟩ = true) :
    Calls Tryz.prog 108 #[.agg #[.int .i64 k, .int .i64 m, .string nm, .string s, .bool g, .int .i64 x]] w (PrintEnd w (printN s.data.toList g x)) := by
  obtain ⟨p1, p2, p3⟩ := right_bounds hr
  simp only at p1 p2 p3
  rw [size_toList] at p1
  have hB := (Below.refl w.heap.size w).alloc (Nat.le_refl _) (.cells #[.int .i64 k, .int .i64 m, .string nm, .string s, .bool g, .int .i64 x] 35)
  have HG : Hid (s.data.toList = [] → g = false) := Lib.hid (fun h => by
    obtain ⟨_, _, _, ⟨_, h', _⟩ | ⟨h', _⟩⟩ := (right_iff _).1 hr
    · exact h'
    · exact absurd h h')
  clear hr
  have HP : Hid (printN s.data.toList g x = (if g = true then [45] else []) ++ printS s.data.toList x) := Lib.hid (by unfold printN; cases g <;> simp)
  go_enter Tryz.func108, Tryz.ntmps108
  go_upto_if 7 with fail
  go_cut [3] (fun s3 wx => s3 = .string ⟨(if g = true then [45] else []).toArray⟩ ∧ wx = w.alloc (.cells #[.int .i64 k, .int .i64 m, .string nm, .string s, .bool g, .int .i64 x] 35))
  case first =>
    cases g
    · go_wp2_with fail
      go_meet
      exact ⟨rfl, rfl⟩
    · go_wp2_with fail
      go_meet
      exact ⟨rfl, rfl⟩
  case rest =>
    obtain ⟨rfl, rfl⟩ := hcut
    have hsg : (if g = true then [45] else ([] : List UInt8)).length ≤ 1 := by split <;> simp
    have HSG : Hid (g = false → (if g = true then [45] else ([] : List UInt8)) = []) := Lib.hid (fun h => by rw [h]; rfl)
    generalize (if g = true then [45] else ([] : List UInt8)) = sg at *
    cases hne : s.toList.isEmpty
    · have HS : Hid (printS s.data.toList x = if 0 ≤ x ∧ x ≤ 20 - s.size then s.data.toList ++ Lib.repeatL [48] x.toNat
          else if -20 ≤ x ∧ x ≤ -1 then pointF s.data.toList (-x).toNat else s.data.toList ++ 101 :: Lib.itoa x) := Lib.hid (by rw [printS, if_neg (by rw [← ByteArray.toList_eq, hne]; decide), size_toList])
      by_cases c1 : 0 ≤ x ∧ x ≤ 20 - s.size
      · have HV := Lib.hid (HS.out.trans (if_pos c1))
        clear HS
        obtain ⟨c1, c2⟩ := c1
        go_wp2_with fail
        go_loop [4, 5] (fun a b => ∃ i : Nat, (i : Int) ≤ x ∧ b = .int .i64 i ∧ a = .string ⟨(s.data.toList ++ noughts i).toArray⟩) (fun _ b => x.toNat - (intOf b).toNat)
        case atStart => exact ⟨0, by omega, rfl, congrArg Value.string (by simp [noughts])⟩
        case round =>
          obtain ⟨i, hi, rfl, rfl⟩ := hrel
          have hln : (s.data.toList ++ noughts i).length ≤ 140 := by rw [List.length_append, noughts_len1, size_toList]; omega
          by_cases hlt : (i : Int) < x
          · have HN := Lib.hid (nought_behind1 i s.data.toList)
            generalize s.data.toList ++ noughts i = q at *
            go_wp2_with fail
            go_round
            case rel => exact ⟨i + 1, by omega, by go_num, congrArg Value.string HN.out⟩
            case measure => simp [intOf]; omega
          · have HF : Hid (printN s.data.toList g x = sg ++ (s.data.toList ++ noughts i)) := Lib.hid (by rw [HP.out, HV.out, repeat_noughts, show x.toNat = i by omega])
            generalize s.data.toList ++ noughts i = q at *
            go_wp2_with fail
            go_ret
            exact printEnd_of (b := ByteArray.mk sg.toArray ++ ByteArray.mk q.toArray) (by rw [HF.out]; exact ByteArray.ext (by simp)) hB
      · have HS2 := Lib.hid (HS.out.trans (if_neg c1))
        clear HS
        by_cases c2 : -20 ≤ x ∧ x ≤ -1
        · have HV := Lib.hid (HS2.out.trans (if_pos c2))
          clear HS2 c1
          obtain ⟨c2, c3⟩ := c2
          obtain ⟨b, hb⟩ : ∃ b : Nat, x = -(b : Int) := ⟨(-x).toNat, by omega⟩
          subst hb
          rw [show (-(-(b : Int))).toNat = b by omega] at HV
          have d1 : decide (0 ≤ -(b : Int)) = false := by simp; omega
          go_wp2_with fail
          go_loop [4] (fun a => ∃ j : Nat, j ≤ b + 1 - s.size ∧ a = .string ⟨(noughts j ++ s.data.toList).toArray⟩) (fun a => match a with | .string t => b + 1 - t.size | _ => 0)
          case atStart => exact ⟨0, by omega, congrArg Value.string (by rfl)⟩
          case round =>
            obtain ⟨j, hj, rfl⟩ := hrel
            have hln : (noughts j ++ s.data.toList).length = j + s.size := by rw [List.length_append, noughts_len1, size_toList]
            by_cases hlt : j < b + 1 - s.size
            · have HN := Lib.hid (nought_ahead1 j s.data.toList)
              have HLn := Lib.hid hln
              have hl1 : (noughts j ++ s.data.toList).length < b + 1 := by omega
              have HM : Hid ((ByteArray.mk #[48] ++ ByteArray.mk (noughts j ++ s.data.toList).toArray).size = j + 1 + s.size) := Lib.hid (by
                rw [HN.out]; show (noughts (j + 1) ++ s.data.toList).length = _; rw [List.length_append, noughts_len1, size_toList])
              clear hln
              generalize noughts j ++ s.data.toList = q at *
              go_wp2_with fail
              go_round
              case rel => exact ⟨j + 1, by omega, congrArg Value.string HN.out⟩
              case measure =>
                simp only
                rw [HM.out]
                show b + 1 - (j + 1 + s.size) < b + 1 - q.length
                rw [HLn.out]
                omega
            · have hje : j = b + 1 - s.size := by omega
              have HPd : Hid (padF s.data.toList b = noughts j ++ s.data.toList) := Lib.hid (by unfold padF; rw [repeat_noughts, size_toList, hje])
              have hpl := padF_len s.data.toList b
              have hpu := padF_le s.data.toList b
              rw [HPd.out] at hpl hpu
              rw [size_toList] at hpu
              have HQ : Hid (pointF s.data.toList b = (noughts j ++ s.data.toList).take ((noughts j ++ s.data.toList).length - b) ++ 46 :: (noughts j ++ s.data.toList).drop ((noughts j ++ s.data.toList).length - b)) := Lib.hid (by unfold pointF; rw [HPd.out])
              clear hln hje hlt HPd
              generalize noughts j ++ s.data.toList = pd at *
              obtain ⟨p, hp⟩ : ∃ p : Nat, pd.length - b = p := ⟨_, rfl⟩
              rw [hp] at HQ
              have hw : IntKind.i64.wrap ((pd.length : Int) + -(b : Int)) = (p : Int) := (IntWalk.i64_in _ ⟨by omega, by omega⟩).trans (by omega)
              have hp1 : p ≤ pd.length := by omega
              have HW := Lib.hid hw
              clear hp hw
              go_upto_region 16 with fail
              have hw := HW.out
              go_quiet (fail)
              go_wp2_with fail
              go_ret
              refine printEnd_of (b := ByteArray.mk sg.toArray ++ (ByteArray.mk pd.toArray).extract 0 p ++ ByteArray.mk #[46] ++ (ByteArray.mk pd.toArray).extract p pd.length) ?_ ⟨hB.os, hB.tape, hB.output, hB.size, hB.block⟩
              rw [HP.out, HV.out, HQ.out, extract_run (ByteArray.mk pd.toArray) 0 p (pd.take p) (by simp), extract_run (ByteArray.mk pd.toArray) p pd.length (pd.drop p) (by show pd.drop p = _; exact (List.take_of_length_le (by simp)).symm)]
              exact ByteArray.ext (by simp)
        · have HV := Lib.hid (HS2.out.trans (if_neg c2))
          clear HS2
          by_cases h0 : 0 ≤ x
          · obtain ⟨u, hu⟩ : ∃ u : Nat, x = u := ⟨x.toNat, by omega⟩
            subst hu
            have hit : Lib.itoa (u : Int) = Lib.decDigits u := by unfold Lib.itoa; rw [if_neg (by omega), Int.toNat_natCast]
            rw [hit] at HV
            have hil := dec_ten u (by omega)
            have d1 : decide ((s.size : Int) + u ≤ 20) = false := by simp; omega
            have d2 : decide ((u : Int) < 0) = false := by simp
            clear c1 c2 hit
            go_wp2_with fail
            refine (decimal_pos u _ (by omega)).mono ?_
            rintro e w2 ⟨rfl, hb2⟩
            have HF : Hid (printN s.data.toList g u = sg ++ (s.data.toList ++ 101 :: Lib.decDigits u)) := Lib.hid (by rw [HP.out, HV.out])
            generalize Lib.decDigits u = dd at *
            go_wp2_with fail
            go_ret
            exact printEnd_of (b := ByteArray.mk sg.toArray ++ s ++ ByteArray.mk #[101] ++ ByteArray.mk dd.toArray) (by rw [HF.out]; exact ByteArray.ext (by simp)) (hB.trans (hb2.mono hB.size))
          · obtain ⟨u, hu⟩ : ∃ u : Nat, x = -(u : Int) := ⟨(-x).toNat, by omega⟩
            subst hu
            have hit : Lib.itoa (-(u : Int)) = 45 :: Lib.decDigits u := by unfold Lib.itoa; rw [if_pos (by omega), Int.natAbs_neg, Int.natAbs_natCast]
            rw [hit] at HV
            have hil := dec_ten u (by omega)
            have d1 : decide (0 ≤ -(u : Int)) = false := by simp; omega
            have d2 : decide (-20 ≤ -(u : Int)) = false := by simp; omega
            have d3 : decide ((u : Int) ≤ 20) = false := by simp; omega
            have d4 : decide (u ≤ 20) = false := by simp; omega
            clear c1 c2 hit
            go_wp2_with fail
            refine (decimal_neg u (by omega) (by omega) _).mono ?_
            rintro e w2 ⟨rfl, hb2⟩
            have HF : Hid (printN s.data.toList g (-(u : Int)) = sg ++ (s.data.toList ++ 101 :: (45 :: Lib.decDigits u))) := Lib.hid (by rw [HP.out, HV.out])
            generalize Lib.decDigits u = dd at *
            go_wp2_with fail
            go_ret
            exact printEnd_of (b := ByteArray.mk sg.toArray ++ s ++ ByteArray.mk #[101] ++ ByteArray.mk (45 :: dd).toArray) (by rw [HF.out]; exact ByteArray.ext (by simp)) (hB.trans (hb2.mono hB.size))
    · have hg0 := HG.out (by rw [← ByteArray.toList_eq]; exact List.isEmpty_iff.1 hne)
      have hsg0 := HSG.out hg0
      have HV : Hid (printN s.data.toList g x = [48]) := Lib.hid (by
        rw [HP.out, hsg0, printS, if_pos (by rw [← ByteArray.toList_eq]; exact hne)]; rfl)
      clear hg0 hsg0
      go_wp2_with fail
      go_ret
      exact printEnd_of (b := ⟨#[48]⟩) (by rw [HV.out]) hB

end Go.Proofs.YtafbojiojeemoaaGreatDoor

/-
  The document's own texts of a value: what line, Scalar, printed, Compact and Indent of louperef04 answer.
-/
namespace Go.Proofs.YtafbojiojeemoaaGreatDoor
open Go.RowKit Np Rw Vp Up Qp Tp

/-- How deep, as the document's calls say it. -/
def dv (ln : Bool) (d : Nat) : Int := if ln = true then (d : Int) else -1
theorem rep_two (i : Nat) : (ByteArray.mk ((10 : UInt8) :: List.replicate (2 * i) 32).toArray) ++ ByteArray.mk #[32, 32] = ⟨((10 : UInt8) :: List.replicate (2 * (i + 1)) 32).toArray⟩ := by
  rw [show 2 * (i + 1) = 2 * i + 1 + 1 by omega, List.replicate_succ', List.replicate_succ']
  exact ByteArray.ext (by simp)
theorem prT_clr (ln : Bool) (d : Nat) (t : Tr Nd) : prT ln d (nmd [] t) = prT ln d t := by
  cases t with
  | mk n ks => rw [nmd, prT_mk, prT_mk]; rfl
theorem val_clr {t u : Tr Nd} (h : Val t) (hu : u ∈ t.ks) : Val (nmd [] u) := Val.clr (h.parts u hu).1 (h.parts u hu).2
theorem cat2 (a b : List UInt8) : (ByteArray.mk a.toArray) ++ (ByteArray.mk b.toArray) = ⟨(a ++ b).toArray⟩ := ByteArray.ext (by simp)
set_option maxRecDepth 100000 in
set_option maxHeartbeats 2000000 in
theorem refLine_any (ln : Bool) (d : Nat) (w : World) (hd : d ≤ 1000) : Calls Tryz.prog 74 #[.int .i64 (dv ln d)] w fun e w' => e = .returned (.string ⟨(prL ln d).toArray⟩) ∧ w' = w := by
  cases ln with
  | false =>
    show Calls Tryz.prog 74 #[.int .i64 (-1)] w _
    go_enter Tryz.func74, Tryz.ntmps74
    go_wp2_with fail
    go_ret
    exact ⟨rfl, rfl⟩
  | true =>
    show Calls Tryz.prog 74 #[.int .i64 (d : Int)] w _
    go_enter Tryz.func74, Tryz.ntmps74
    go_wp2_with fail
    go_loopw [3, 4] (fun sv iv wr => ∃ k : Nat, k ≤ d ∧ iv = .int .i64 k ∧ sv = .string ⟨((10 : UInt8) :: List.replicate (2 * k) 32).toArray⟩ ∧ wr = w) (fun _ iv _ => d - (intOf iv).toNat)
    case atStart => exact ⟨0, Nat.zero_le _, rfl, rfl, rfl⟩
    case round =>
      obtain ⟨k, hk, rfl, rfl, rfl⟩ := hrel
      by_cases hlt : k < d
      · have HR := Lib.hid (rep_two k)
        have hsz : (ByteArray.mk ((10 : UInt8) :: List.replicate (2 * k) 32).toArray).size ≤ 3000 := by rw [mk_size]; simp; omega
        generalize ByteArray.mk ((10 : UInt8) :: List.replicate (2 * k) 32).toArray = X at *
        go_wp2_with fail
        go_roundw
        case rel => exact ⟨k + 1, by omega, by go_num, by rw [HR.out], by first | trivial | rfl⟩
        case measure => simp [intOf]; omega
      · obtain rfl : k = d := by omega
        have hP : Hid ((10 : UInt8) :: List.replicate (2 * k) 32 = prL true k) := Lib.hid rfl
        rw [hP.out]
        go_wp2_with fail
        go_ret
        exact ⟨rfl, rfl⟩
end Go.Proofs.YtafbojiojeemoaaGreatDoor

/-
  The document's own texts of a value: what line, Scalar, printed, Compact and Indent of louperef04 answer.
-/
namespace Go.Proofs.YtafbojiojeemoaaGreatDoor
open Go.RowKit Np Rw Vp Up Qp Tp

set_option maxRecDepth 100000 in
set_option maxHeartbeats 2000000 in
theorem refScalar_any (n : Nd) (w : World) (hp : plainN n = true) (hn : n.name = []) (h5 : n.kind ≠ 5) (h6 : n.kind ≠ 6) (hs : n.s.length ≤ 1000000) :
    Calls Tryz.prog 71 #[nda n] w fun e w' => e = .returned (.string ⟨(scT n).toArray⟩) ∧ Below w.heap.size w w' := by
  have hb0 : Below w.heap.size w (w.alloc (.cells #[.int .i64 n.kind, .int .i64 n.many, .string ⟨n.name.toArray⟩, .string ⟨n.s.toArray⟩, .bool n.neg, .int .i64 n.e] 35)) := (Below.refl _ _).alloc (Nat.le_refl _) _
  have HB0 := Lib.hid hb0
  clear hb0
  by_cases c0 : n.kind = 0 ∨ n.kind = 1 ∨ n.kind = 2
  · have HS : Hid (scT n = wordT n.kind) := Lib.hid (by unfold scT; rw [if_pos c0])
    obtain ⟨nk, nm, nn, ns, ng, ne⟩ := n
    simp only at *
    subst hn
    rcases c0 with rfl | rfl | rfl
    all_goals
      generalize scT _ = X at *
      have HX := HS.out
      subst HX
      go_enter Tryz.func71, Tryz.ntmps71
      go_wp2_with fail
      go_ret
      exact ⟨rfl, by first | exact HB0.out | exact Below.refl _ _⟩
  by_cases c3 : n.kind = 3
  · have hr : right n = true := by
      have h := hp
      unfold plainN at h
      rw [if_neg c0, if_pos c3] at h
      have e : ({ n with name := [] } : Nd) = n := by rw [← hn]
      rwa [e] at h
    have HS : Hid (scT n = printN n.s n.neg n.e) := Lib.hid (by unfold scT; rw [if_neg c0, if_pos c3])
    obtain ⟨nk, nm, nn, ns, ng, ne⟩ := n
    simp only at *
    subst hn
    subst c3
    have HP := Lib.hid (fun W => refPrint_any 3 nm ⟨#[]⟩ ⟨ns.toArray⟩ ng ne W (by rw [mk_data]; exact hr))
    unfold PrintEnd at HP
    simp only at HP
    generalize scT _ = X at *
    have HX := HS.out
    subst HX
    clear HS
    go_enter Tryz.func71, Tryz.ntmps71
    go_wp2_with fail
    refine (HP.out _).mono ?_
    rintro e w1 ⟨rfl, hb1⟩
    have HB1 : Hid (Below w.heap.size w w1) := Lib.hid (by first | exact Below.after HB0.out hb1 | exact hb1)
    clear hb1
    go_wp2_with fail
    go_ret
    exact ⟨rfl, HB1.out⟩
  · have h4 : n.kind = 4 := by
      have h := hp
      unfold plainN at h
      rw [if_neg c0, if_neg c3] at h
      by_cases h4 : n.kind = 4
      · exact h4
      · rw [if_neg h4, if_neg (by omega)] at h; cases h
    have HS : Hid (scT n = quo n.s) := Lib.hid (by unfold scT; rw [if_neg c0, if_neg c3])
    obtain ⟨nk, nm, nn, ns, ng, ne⟩ := n
    simp only at *
    subst hn
    subst h4
    have HP := Lib.hid (fun W => refQuote_any ⟨ns.toArray⟩ W (by rw [mk_size]; omega))
    simp only at HP
    generalize scT _ = X at *
    have HX := HS.out
    subst HX
    clear HS
    go_enter Tryz.func71, Tryz.ntmps71
    go_wp2_with fail
    refine (HP.out _).mono ?_
    rintro e w1 ⟨rfl, hb1⟩
    have HB1 : Hid (Below w.heap.size w w1) := Lib.hid (by first | exact Below.after HB0.out hb1 | exact hb1)
    clear hb1
    go_wp2_with fail
    go_ret
    exact ⟨rfl, HB1.out⟩

end Go.Proofs.YtafbojiojeemoaaGreatDoor

/-
  The document's own texts of a value: what line, Scalar, printed, Compact and Indent of louperef04 answer.
-/
namespace Go.Proofs.YtafbojiojeemoaaGreatDoor
open Go.RowKit Np Rw Vp Up Qp Tp

/-- What printed answers, of one that is no greater than so. -/
def PrI (ln : Bool) (N : Nat) : Prop := ∀ (t : Tr Nd), (flat t).length ≤ N → ∀ (d : Nat) (v : Value) (w : World), Nds w v (flat t) → Val t → (∀ x ∈ flat t, FitN x) → d + (flat t).length ≤ 1000 → (prT ln d t).length ≤ 100000000 →
    Calls Tryz.prog 37 #[v, .int .i64 (dv ln d)] w fun e w' => e = .returned (.string ⟨(prT ln d t).toArray⟩) ∧ Below w.heap.size w w'
set_option maxRecDepth 100000 in
set_option maxHeartbeats 4000000 in
theorem refPrinted_leaf (ln : Bool) (t : Tr Nd) (d : Nat) (v : Value) (w : World) (hv : Nds w v (flat t)) (ht : Val t) (hF : ∀ x ∈ flat t, FitN x) (h5 : t.nd.kind ≠ 5) (h6 : t.nd.kind ≠ 6) :
    Calls Tryz.prog 37 #[v, .int .i64 (dv ln d)] w fun e w' => e = .returned (.string ⟨(prT ln d t).toArray⟩) ∧ Below w.heap.size w w' := by
  have HT : Hid (prT ln d t = scT t.nd) := Lib.hid (by
    obtain ⟨n, ks⟩ := t
    have h5' : n.kind ≠ 5 := h5
    have h6' : n.kind ≠ 6 := h6
    rw [prT_mk, if_neg h5', if_neg h6']; rfl)
  have hvo := hv
  obtain ⟨g, o, c, rfl, hc, hcm, hg, hx⟩ := hvo.opened (flat_pos t)
  have hmem : t.nd ∈ flat t := by rw [flat_eq]; simp
  have hfit := hF _ hmem
  have HSC := Lib.hid (fun W => refScalar_any t.nd W ht.plain ht.nm h5 h6 hfit.s)
  obtain ⟨a0, a1, a2, a3, a4, a5⟩ : Nd6 w g (o + 0 * 6) t.nd := (hx 0 t.nd (by rw [flat_eq]; rfl)).nd
  simp only [Nat.zero_mul, Nat.add_zero] at a0 a1 a2 a3 a4 a5
  have hk : t.nd.kind < 5 := by have := hfit.k6; omega
  have hpos := flat_pos t
  clear hx hv hF hmem
  generalize prT ln d t = X at *
  have HX := HT.out
  subst HX
  generalize dv ln d = D at *
  generalize (flat t).length = n at *
  generalize t.nd = x at *
  go_enter Tryz.func37, Tryz.ntmps37
  go_wp2_with fail
  refine (HSC.out _).mono ?_
  rintro e w1 ⟨rfl, hb1⟩
  go_wp2_with fail
  go_ret
  exact ⟨rfl, hb1⟩
end Go.Proofs.YtafbojiojeemoaaGreatDoor

/-
  The document's own texts of a value: what line, Scalar, printed, Compact and Indent of louperef04 answer.
-/
namespace Go.Proofs.YtafbojiojeemoaaGreatDoor
open Go.RowKit Np Rw Vp Up Qp Tp

set_option maxRecDepth 100000 in
set_option maxHeartbeats 16000000 in
theorem refPrinted_ArrC (N : Nat) (hI : PrI false N) (t : Tr Nd) (hN : (flat t).length ≤ N + 1) (hk : t.nd.kind = 5) (d : Nat) (v : Value) (w : World) (hv : Nds w v (flat t)) (ht : Val t) (hF : ∀ x ∈ flat t, FitN x) (hd : d + (flat t).length ≤ 1000) (hlen : (prT false d t).length ≤ 100000000) :
    Calls Tryz.prog 37 #[v, .int .i64 (-1)] w fun e w' => e = .returned (.string ⟨(prT false d t).toArray⟩) ∧ Below w.heap.size w w' := by
  have HI := Lib.hid hI
  have HFF := Lib.hid hF
  have HVT := Lib.hid ht
  have hpr : prT false d t = 91 :: (prB false d false t.ks ++ [93]) := by
    obtain ⟨n, ks⟩ := t
    have hk' : n.kind = 5 := hk
    rw [prT_mk, if_pos hk']; rfl
  have HPR := Lib.hid hpr
  have hvo := hv
  obtain ⟨g, o, c, rfl, hc, hcm, hg, hx⟩ := hvo.opened (flat_pos t)
  have a0 : w.cell? ⟨g, o, none⟩ = some (.int .i64 5) := by
    have := (hx 0 t.nd (by rw [flat_eq]; rfl)).nd.c0
    rw [hk] at this
    simpa using this
  have HPA := Lib.hid (refParts_any _ t w hv (by omega) ht)
  have HNA := Lib.hid (fun W hb => refNames_any _ t W (hv.below hb) (by omega) ht)
  have HNM : Hid (namesT t = ([] : List (List UInt8))) := Lib.hid (by unfold namesT; rw [if_neg (by rw [hk]; decide)])
  have hfl : (flat t).length = 1 + (flats t.ks).length := by rw [flat_eq]; simp; omega
  have HFL := Lib.hid hfl
  have HNN := Lib.hid hN
  have HD := Lib.hid hd
  have HLEN := Lib.hid hlen
  have hq9 : t.ks.length ≤ 999 := by have := flats_len t.ks; omega
  have hd9 : d ≤ 999 := by have := flat_pos t; omega
  have hn0 : 0 < (flat t).length := flat_pos t
  clear hx hv hvo hfl hN hd hlen hF hpr
  generalize (flat t).length = n at HFL HNN HD hc HPA HNA hn0 ⊢
  generalize hXX : prT false d t = X at HPR HLEN ⊢
  go_enter Tryz.func37, Tryz.ntmps37
  go_wp2_with fail
  refine HPA.out.mono ?_
  rintro e w1 h1
  obtain ⟨A1, c1, rfl, hp1, hb1⟩ := h1.is (n := t.ks.length) (by simp)
  obtain ⟨us, hul, ⟨A1', c1', hv1, -, -, -, hx1⟩, hue⟩ := hp1
  injection hv1 with e1 e2 e3
  subst e1 e3
  rw [← e2] at hx1
  have HX1 := Lib.hid hx1
  have HUE := Lib.hid hue
  have HUL : Hid (us.length = t.ks.length) := Lib.hid e2.symm
  have HB1 := Lib.hid hb1
  clear hul hx1 hue e2 h1 hb1
  generalize hq : t.ks.length = q at *
  have HQ := Lib.hid hq
  clear hq
  go_wp2_with fail
  refine (HNA.out _ HB1.out).mono ?_
  rintro e w2 ⟨v2, rfl, hs2, hb2⟩
  rw [HNM.out] at hs2
  obtain ⟨A2, c2, rfl, -, -, -, hx2⟩ := hs2
  have hz2 : (([] : List (List UInt8))).length = 0 := by first | rfl | (rw [List.length_map]; exact HQ.out)
  rw [hz2] at hx2 ⊢
  have HX2 := Lib.hid hx2
  have HB2 := Lib.hid (Below.after HB1.out hb2)
  have HPS : Hid (∀ k x, us[k]? = some x → ∃ g8 o8 : Nat, A1 = some ⟨g8, o8, none⟩ ∧ g8 < w2.heap.size ∧ w2.cell? ⟨g8, o8 + k, none⟩ = some x) := Lib.hid (fun k x hk => by
    have hk1 := (List.getElem?_eq_some_iff.1 hk).1
    obtain ⟨g8, o8, hA, hg8, hx8⟩ := HX1.out (by have := HUL.out; have := HQ.out; omega)
    exact ⟨g8, o8, hA, Nat.lt_of_lt_of_le hg8 hb2.size, (hb2.cell (p := ⟨g8, o8 + k, none⟩) hg8).trans (hx8 k x hk).one⟩)
  have HPE : Hid (∀ (k : Nat) x u, us[k]? = some x → t.ks[k]? = some u → Nds w2 x (flat (nmd [] u))) := Lib.hid (fun k x u h1 h2 => (HUE.out k x _ h1 (by rw [List.getElem?_map, h2]; rfl)).below hb2)
  clear hx2 hb2 hz2 HX1 HUE HNA HPA HB1
  by_cases hq0 : q = 0
  · have hks : t.ks = [] := List.eq_nil_of_length_eq_zero (by rw [HQ.out]; exact hq0)
    have HE : Hid (X = [91, 93]) := Lib.hid (by rw [HPR.out, hks, prB_nil]; rfl)
    subst hq0
    clear hks
    go_wp2_with fail
    go_ret
    exact ⟨by rw [HE.out]; rfl, HB2.out⟩
  · have hqi : ((q : Int) == 0) = false := by simp; omega
    have hqp : 0 < q := by omega
    go_wp2_with fail
    go_loopw [10, 11] (fun sv iv wr => ∃ (pre post : List (Tr Nd)) (L' : List UInt8), t.ks = pre ++ post ∧ iv = .int .i64 (pre.length : Nat) ∧ sv = .string ⟨L'.toArray⟩ ∧ Hid (At false d false t.ks pre post [91] L') ∧ Hid (Below w2.heap.size w2 wr)) (fun _ iv _ => q - (intOf iv).toNat)
    case atStart => exact ⟨[], t.ks, [91], rfl, rfl, rfl, Lib.hid (.inl ⟨rfl, rfl⟩), Lib.hid (Below.refl _ _)⟩
    case round =>
      obtain ⟨pre, post, L', hpp, rfl, rfl, HA3, HB3⟩ := hrel
      have hlen : pre.length + post.length = q := by rw [← HQ.out, hpp]; simp
      have HPP := Lib.hid hpp
      clear hpp
      cases post with
      | nil =>
        have hpm : pre.length = q := by simpa using hlen
        have HT : Hid (X = L' ++ prL false d ++ [93]) := Lib.hid (by
          rw [HPR.out]
          rcases HA3.out with ⟨h, -⟩ | ⟨-, h⟩
          · subst h; simp at hpm; omega
          · rw [prK_nil] at h; rw [h]; simp)
        have hl3 : (L' ++ prL false d ++ [93]).length ≤ 100000000 := by have := HLEN.out; rw [HT.out] at this; exact this
        have hsz := hl3
        simp only [List.length_append, List.length_singleton] at hsz
        have hs1 : (ByteArray.mk L'.toArray).size ≤ 100000000 := by rw [mk_size]; omega
        have HL := Lib.hid (fun W => refLine_any false d W (by omega))
        rw [show dv false d = -1 from rfl] at HL
        have HC : Hid ((ByteArray.mk L'.toArray ++ ByteArray.mk (prL false d).toArray) ++ ByteArray.mk #[93] = ⟨X.toArray⟩) := Lib.hid (by rw [HT.out]; exact ByteArray.ext (by simp))
        have hs2 : (ByteArray.mk (prL false d).toArray).size ≤ 100000000 := by rw [mk_size]; omega
        generalize ByteArray.mk L'.toArray = Y1 at *
        generalize ByteArray.mk (prL false d).toArray = Y2 at *
        subst hpm
        go_upto_region 24 with fail
        go_region_with (go_at_call 74; refine (HL.out _).mono ?_; rintro e w3 ⟨rfl, rfl⟩)
        all_goals go_wp2_with fail
        all_goals go_ret
        all_goals exact ⟨ret_str HC.out, by first | exact Below.after HB2.out HB3.out | exact drewN_below (Below.after HB2.out HB3.out) _⟩
      | cons u us2 =>
        simp only [List.length_cons] at hlen
        have hui : u ∈ t.ks := by rw [HPP.out]; simp
        have huk : t.ks[pre.length]? = some u := by rw [HPP.out]; simp
        have hpl : pre.length < q := by omega
        obtain ⟨x, hxk⟩ : ∃ a, us[pre.length]? = some a := ⟨_, List.getElem?_eq_getElem (by rw [HUL.out]; have := HQ.out; omega)⟩
        obtain ⟨g8, o8, rfl, hg8, hx8⟩ := HPS.out _ _ hxk
        have b0 := (HB3.out.cell (p := ⟨g8, o8 + pre.length, none⟩) hg8).trans hx8
        have HRX : Hid (Nds wr x (flat (nmd [] u))) := Lib.hid ((HPE.out _ x u hxk huk).below HB3.out)
        have hft : (flat u).length ≤ (flats t.ks).length := len_flats hui
        have HA4 := Lib.hid (HA3.out.next HPP.out)
        have hl4 : (L' ++ (if pre = [] then [] else [44]) ++ prL false (d + 1) ++ (if false = true then prN false u.nd.name else []) ++ prT false (d + 1) u).length ≤ 100000000 := by
          have h1 := HLEN.out
          rw [HPR.out, ← List.singleton_append, ← List.append_assoc, ← HA4.out, List.length_append, List.length_append] at h1
          omega
        have hl5 := hl4
        simp only [List.length_append] at hl5
        have HVU := Lib.hid (fun W (hb : Below wr.heap.size wr W) => HI.out (nmd [] u) (by rw [flat_nmd_len]; have := HFL.out; have := HNN.out; omega) (d + 1) x W (HRX.out.below hb) (val_clr HVT.out hui) (fun y hy => by
          rw [flat_eq, List.mem_cons] at hy
          have hmem : ∀ z ∈ flat u, z ∈ flat t := fun z hz => by
            rw [flat_eq, List.mem_cons]; right
            obtain ⟨a, c, e⟩ := List.append_of_mem hui
            rw [e, flats_append, flats_cons]; simp [hz]
          rcases hy with rfl | hy
          · have := HFF.out u.nd (hmem _ (by rw [flat_eq]; simp))
            rw [nmd_nd]
            exact ⟨this.k0, this.k6, this.s, by simp [nmN], this.e0, this.e1⟩
          · rw [nmd_ks] at hy
            exact HFF.out y (hmem _ (by rw [flat_eq]; exact List.mem_cons_of_mem _ hy))) (by rw [flat_nmd_len]; have := HFL.out; have := HD.out; omega) (by rw [prT_clr]; omega))
        rw [prT_clr] at HVU
        have hdv : dv false (d + 1) = -1 := by first | rfl | (unfold dv; simp)
        rw [hdv] at HVU
        have HL := Lib.hid (fun W => refLine_any false (d + 1) W (by omega))
        rw [hdv] at HL
        skip
        have hsL : (ByteArray.mk (prL false (d + 1)).toArray).size ≤ 100000000 := by rw [mk_size]; omega
        have hsT : (ByteArray.mk (prT false (d + 1) u).toArray).size ≤ 100000000 := by rw [mk_size]; omega
        have hs1 : (ByteArray.mk L'.toArray).size ≤ 100000000 := by rw [mk_size]; omega
        have hsum : (ByteArray.mk L'.toArray).size + (if pre = [] then 0 else 1) + (ByteArray.mk (prL false (d + 1)).toArray).size + 0 + (ByteArray.mk (prT false (d + 1) u).toArray).size ≤ 100000000 := by
          simp only [mk_size]
          have e1 : (if pre = [] then ([] : List UInt8) else [44]).length = if pre = [] then 0 else 1 := by split <;> rfl
          rw [e1] at hl5
          omega
        by_cases hpre : pre = []
        · have hp0 : ¬ 0 < pre.length := by rw [hpre]; simp
          have hk0 : pre.length = 0 := by rw [hpre]; rfl
          simp only [hk0, Nat.add_zero] at b0
          rw [if_pos hpre] at HA4 hsum
          have HC : Hid ((ByteArray.mk L'.toArray ++ ByteArray.mk (prL false (d + 1)).toArray) ++ ByteArray.mk (prT false (d + 1) u).toArray = ⟨(L' ++ [] ++ prL false (d + 1) ++ [] ++ prT false (d + 1) u).toArray⟩) := Lib.hid (by
            exact ByteArray.ext (by simp))
          generalize ByteArray.mk L'.toArray = Y1 at *
          generalize ByteArray.mk (prL false (d + 1)).toArray = Y2 at *
          generalize ByteArray.mk (prT false (d + 1) u).toArray = Y3 at *
          go_wp2_with fail
          refine (HL.out _).mono ?_
          rintro e w3 ⟨rfl, rfl⟩
          go_wp2_with fail
          refine (HVU.out _ (Below.refl _ _)).mono ?_
          rintro e w5 ⟨rfl, hb5⟩
          have HB9 : Hid (Below w2.heap.size w2 w5) := Lib.hid (HB3.out.trans (hb5.mono HB3.out.size))
          clear hb5
          go_wp2_with fail
          go_roundw
          case rel => exact ⟨pre ++ [u], us2, _, by rw [HPP.out]; simp, by first | (simp; done) | go_num, by rw [← HC.out], Lib.hid (.inr ⟨by simp, by have := HA4.out; rwa [if_neg (by decide)] at this⟩), HB9⟩
          case measure => simp [intOf]; omega
        · have hp0 : 0 < pre.length := List.length_pos_iff.2 hpre
          rw [if_neg hpre] at HA4 hsum
          have HC : Hid (((ByteArray.mk L'.toArray ++ ByteArray.mk #[44]) ++ ByteArray.mk (prL false (d + 1)).toArray) ++ ByteArray.mk (prT false (d + 1) u).toArray = ⟨(L' ++ [44] ++ prL false (d + 1) ++ [] ++ prT false (d + 1) u).toArray⟩) := Lib.hid (by
            exact ByteArray.ext (by simp))
          generalize ByteArray.mk L'.toArray = Y1 at *
          generalize ByteArray.mk (prL false (d + 1)).toArray = Y2 at *
          generalize ByteArray.mk (prT false (d + 1) u).toArray = Y3 at *
          go_wp2_with fail
          refine (HL.out _).mono ?_
          rintro e w3 ⟨rfl, rfl⟩
          go_wp2_with fail
          refine (HVU.out _ (Below.refl _ _)).mono ?_
          rintro e w5 ⟨rfl, hb5⟩
          have HB9 : Hid (Below w2.heap.size w2 w5) := Lib.hid (HB3.out.trans (hb5.mono HB3.out.size))
          clear hb5
          go_wp2_with fail
          go_roundw
          case rel => exact ⟨pre ++ [u], us2, _, by rw [HPP.out]; simp, by first | (simp; done) | go_num, by rw [← HC.out], Lib.hid (.inr ⟨by simp, by have := HA4.out; rwa [if_neg (by decide)] at this⟩), HB9⟩
          case measure => simp [intOf]; omega
end Go.Proofs.YtafbojiojeemoaaGreatDoor

/-
  The document's own texts of a value: what line, Scalar, printed, Compact and Indent of louperef04 answer.
-/
namespace Go.Proofs.YtafbojiojeemoaaGreatDoor
open Go.RowKit Np Rw Vp Up Qp Tp

set_option maxRecDepth 100000 in
set_option maxHeartbeats 16000000 in
theorem refPrinted_ObjC (N : Nat) (hI : PrI false N) (t : Tr Nd) (hN : (flat t).length ≤ N + 1) (hk : t.nd.kind = 6) (d : Nat) (v : Value) (w : World) (hv : Nds w v (flat t)) (ht : Val t) (hF : ∀ x ∈ flat t, FitN x) (hd : d + (flat t).length ≤ 1000) (hlen : (prT false d t).length ≤ 100000000) :
    Calls Tryz.prog 37 #[v, .int .i64 (-1)] w fun e w' => e = .returned (.string ⟨(prT false d t).toArray⟩) ∧ Below w.heap.size w w' := by
  have HI := Lib.hid hI
  have HFF := Lib.hid hF
  have HVT := Lib.hid ht
  have hpr : prT false d t = 123 :: (prB false d true t.ks ++ [125]) := by
    obtain ⟨n, ks⟩ := t
    have hk' : n.kind = 6 := hk
    rw [prT_mk, if_neg (by rw [hk']; decide), if_pos hk']; rfl
  have HPR := Lib.hid hpr
  have hvo := hv
  obtain ⟨g, o, c, rfl, hc, hcm, hg, hx⟩ := hvo.opened (flat_pos t)
  have a0 : w.cell? ⟨g, o, none⟩ = some (.int .i64 6) := by
    have := (hx 0 t.nd (by rw [flat_eq]; rfl)).nd.c0
    rw [hk] at this
    simpa using this
  have HPA := Lib.hid (refParts_any _ t w hv (by omega) ht)
  have HNA := Lib.hid (fun W hb => refNames_any _ t W (hv.below hb) (by omega) ht)
  have HNM : Hid (namesT t = t.ks.map (fun k => k.nd.name)) := Lib.hid (by unfold namesT; rw [if_pos hk])
  have hfl : (flat t).length = 1 + (flats t.ks).length := by rw [flat_eq]; simp; omega
  have HFL := Lib.hid hfl
  have HNN := Lib.hid hN
  have HD := Lib.hid hd
  have HLEN := Lib.hid hlen
  have hq9 : t.ks.length ≤ 999 := by have := flats_len t.ks; omega
  have hd9 : d ≤ 999 := by have := flat_pos t; omega
  have hn0 : 0 < (flat t).length := flat_pos t
  clear hx hv hvo hfl hN hd hlen hF hpr
  generalize (flat t).length = n at HFL HNN HD hc HPA HNA hn0 ⊢
  generalize hXX : prT false d t = X at HPR HLEN ⊢
  go_enter Tryz.func37, Tryz.ntmps37
  go_wp2_with fail
  refine HPA.out.mono ?_
  rintro e w1 h1
  obtain ⟨A1, c1, rfl, hp1, hb1⟩ := h1.is (n := t.ks.length) (by simp)
  obtain ⟨us, hul, ⟨A1', c1', hv1, -, -, -, hx1⟩, hue⟩ := hp1
  injection hv1 with e1 e2 e3
  subst e1 e3
  rw [← e2] at hx1
  have HX1 := Lib.hid hx1
  have HUE := Lib.hid hue
  have HUL : Hid (us.length = t.ks.length) := Lib.hid e2.symm
  have HB1 := Lib.hid hb1
  clear hul hx1 hue e2 h1 hb1
  generalize hq : t.ks.length = q at *
  have HQ := Lib.hid hq
  clear hq
  go_wp2_with fail
  refine (HNA.out _ HB1.out).mono ?_
  rintro e w2 ⟨v2, rfl, hs2, hb2⟩
  rw [HNM.out] at hs2
  obtain ⟨A2, c2, rfl, -, -, -, hx2⟩ := hs2
  have hz2 : (t.ks.map (fun k => k.nd.name)).length = q := by first | rfl | (rw [List.length_map]; exact HQ.out)
  rw [hz2] at hx2 ⊢
  have HX2 := Lib.hid hx2
  have HB2 := Lib.hid (Below.after HB1.out hb2)
  have HPS : Hid (∀ k x, us[k]? = some x → ∃ g8 o8 : Nat, A1 = some ⟨g8, o8, none⟩ ∧ g8 < w2.heap.size ∧ w2.cell? ⟨g8, o8 + k, none⟩ = some x) := Lib.hid (fun k x hk => by
    have hk1 := (List.getElem?_eq_some_iff.1 hk).1
    obtain ⟨g8, o8, hA, hg8, hx8⟩ := HX1.out (by have := HUL.out; have := HQ.out; omega)
    exact ⟨g8, o8, hA, Nat.lt_of_lt_of_le hg8 hb2.size, (hb2.cell (p := ⟨g8, o8 + k, none⟩) hg8).trans (hx8 k x hk).one⟩)
  have HPE : Hid (∀ (k : Nat) x u, us[k]? = some x → t.ks[k]? = some u → Nds w2 x (flat (nmd [] u))) := Lib.hid (fun k x u h1 h2 => (HUE.out k x _ h1 (by rw [List.getElem?_map, h2]; rfl)).below hb2)
  clear hx2 hb2 hz2 HX1 HUE HNA HPA HB1
  by_cases hq0 : q = 0
  · have hks : t.ks = [] := List.eq_nil_of_length_eq_zero (by rw [HQ.out]; exact hq0)
    have HE : Hid (X = [123, 125]) := Lib.hid (by rw [HPR.out, hks, prB_nil]; rfl)
    subst hq0
    clear hks
    go_wp2_with fail
    go_ret
    exact ⟨by rw [HE.out]; rfl, HB2.out⟩
  · have hqi : ((q : Int) == 0) = false := by simp; omega
    have hqp : 0 < q := by omega
    go_wp2_with fail
    go_loopw [10, 11] (fun sv iv wr => ∃ (pre post : List (Tr Nd)) (L' : List UInt8), t.ks = pre ++ post ∧ iv = .int .i64 (pre.length : Nat) ∧ sv = .string ⟨L'.toArray⟩ ∧ Hid (At false d true t.ks pre post [123] L') ∧ Hid (Below w2.heap.size w2 wr)) (fun _ iv _ => q - (intOf iv).toNat)
    case atStart => exact ⟨[], t.ks, [123], rfl, rfl, rfl, Lib.hid (.inl ⟨rfl, rfl⟩), Lib.hid (Below.refl _ _)⟩
    case round =>
      obtain ⟨pre, post, L', hpp, rfl, rfl, HA3, HB3⟩ := hrel
      have hlen : pre.length + post.length = q := by rw [← HQ.out, hpp]; simp
      have HPP := Lib.hid hpp
      clear hpp
      cases post with
      | nil =>
        have hpm : pre.length = q := by simpa using hlen
        have HT : Hid (X = L' ++ prL false d ++ [125]) := Lib.hid (by
          rw [HPR.out]
          rcases HA3.out with ⟨h, -⟩ | ⟨-, h⟩
          · subst h; simp at hpm; omega
          · rw [prK_nil] at h; rw [h]; simp)
        have hl3 : (L' ++ prL false d ++ [125]).length ≤ 100000000 := by have := HLEN.out; rw [HT.out] at this; exact this
        have hsz := hl3
        simp only [List.length_append, List.length_singleton] at hsz
        have hs1 : (ByteArray.mk L'.toArray).size ≤ 100000000 := by rw [mk_size]; omega
        have HL := Lib.hid (fun W => refLine_any false d W (by omega))
        rw [show dv false d = -1 from rfl] at HL
        have HC : Hid ((ByteArray.mk L'.toArray ++ ByteArray.mk (prL false d).toArray) ++ ByteArray.mk #[125] = ⟨X.toArray⟩) := Lib.hid (by rw [HT.out]; exact ByteArray.ext (by simp))
        have hs2 : (ByteArray.mk (prL false d).toArray).size ≤ 100000000 := by rw [mk_size]; omega
        generalize ByteArray.mk L'.toArray = Y1 at *
        generalize ByteArray.mk (prL false d).toArray = Y2 at *
        subst hpm
        go_upto_region 24 with fail
        go_region_with (go_at_call 74; refine (HL.out _).mono ?_; rintro e w3 ⟨rfl, rfl⟩)
        all_goals go_wp2_with fail
        all_goals go_ret
        all_goals exact ⟨ret_str HC.out, by first | exact Below.after HB2.out HB3.out | exact drewN_below (Below.after HB2.out HB3.out) _⟩
      | cons u us2 =>
        simp only [List.length_cons] at hlen
        have hui : u ∈ t.ks := by rw [HPP.out]; simp
        have huk : t.ks[pre.length]? = some u := by rw [HPP.out]; simp
        have hpl : pre.length < q := by omega
        obtain ⟨x, hxk⟩ : ∃ a, us[pre.length]? = some a := ⟨_, List.getElem?_eq_getElem (by rw [HUL.out]; have := HQ.out; omega)⟩
        obtain ⟨g8, o8, rfl, hg8, hx8⟩ := HPS.out _ _ hxk
        have b0 := (HB3.out.cell (p := ⟨g8, o8 + pre.length, none⟩) hg8).trans hx8
        have HRX : Hid (Nds wr x (flat (nmd [] u))) := Lib.hid ((HPE.out _ x u hxk huk).below HB3.out)
        have hft : (flat u).length ≤ (flats t.ks).length := len_flats hui
        have HA4 := Lib.hid (HA3.out.next HPP.out)
        have hl4 : (L' ++ (if pre = [] then [] else [44]) ++ prL false (d + 1) ++ (if true = true then prN false u.nd.name else []) ++ prT false (d + 1) u).length ≤ 100000000 := by
          have h1 := HLEN.out
          rw [HPR.out, ← List.singleton_append, ← List.append_assoc, ← HA4.out, List.length_append, List.length_append] at h1
          omega
        have hl5 := hl4
        simp only [List.length_append] at hl5
        have HVU := Lib.hid (fun W (hb : Below wr.heap.size wr W) => HI.out (nmd [] u) (by rw [flat_nmd_len]; have := HFL.out; have := HNN.out; omega) (d + 1) x W (HRX.out.below hb) (val_clr HVT.out hui) (fun y hy => by
          rw [flat_eq, List.mem_cons] at hy
          have hmem : ∀ z ∈ flat u, z ∈ flat t := fun z hz => by
            rw [flat_eq, List.mem_cons]; right
            obtain ⟨a, c, e⟩ := List.append_of_mem hui
            rw [e, flats_append, flats_cons]; simp [hz]
          rcases hy with rfl | hy
          · have := HFF.out u.nd (hmem _ (by rw [flat_eq]; simp))
            rw [nmd_nd]
            exact ⟨this.k0, this.k6, this.s, by simp [nmN], this.e0, this.e1⟩
          · rw [nmd_ks] at hy
            exact HFF.out y (hmem _ (by rw [flat_eq]; exact List.mem_cons_of_mem _ hy))) (by rw [flat_nmd_len]; have := HFL.out; have := HD.out; omega) (by rw [prT_clr]; omega))
        rw [prT_clr] at HVU
        have hdv : dv false (d + 1) = -1 := by first | rfl | (unfold dv; simp)
        rw [hdv] at HVU
        have HL := Lib.hid (fun W => refLine_any false (d + 1) W (by omega))
        rw [hdv] at HL
        have hqn : (quo u.nd.name).length + 1 = (prN false u.nd.name).length := by rw [prN_len]; simp
        have hmu : u.nd ∈ flat t := by
          rw [flat_eq, List.mem_cons]; right
          obtain ⟨a, c, e⟩ := List.append_of_mem hui
          rw [e, flats_append, flats_cons, flat_eq u]; simp
        have hnml := (HFF.out u.nd hmu).nm
        have HQN := Lib.hid (fun W => refQuote_any ⟨u.nd.name.toArray⟩ W (by rw [mk_size]; omega))
        simp only at HQN
        have hnk : (t.ks.map fun k => k.nd.name)[pre.length]? = some u.nd.name := by rw [List.getElem?_map, huk]; rfl
        obtain ⟨g9, o9, rfl, hg9, hx9⟩ := HX2.out (by omega)
        have n0 := (HB3.out.cell (p := ⟨g9, o9 + pre.length, none⟩) hg9).trans (hx9 _ _ hnk).one
        have hsQ : (ByteArray.mk (quo u.nd.name).toArray).size ≤ 100000000 := by rw [mk_size]; simp only [if_true] at hl5; omega
        have hsL : (ByteArray.mk (prL false (d + 1)).toArray).size ≤ 100000000 := by rw [mk_size]; omega
        have hsT : (ByteArray.mk (prT false (d + 1) u).toArray).size ≤ 100000000 := by rw [mk_size]; omega
        have hs1 : (ByteArray.mk L'.toArray).size ≤ 100000000 := by rw [mk_size]; omega
        have hsum : (ByteArray.mk L'.toArray).size + (if pre = [] then 0 else 1) + (ByteArray.mk (prL false (d + 1)).toArray).size + (ByteArray.mk (quo u.nd.name).toArray).size + 1 + (ByteArray.mk (prT false (d + 1) u).toArray).size ≤ 100000000 := by
          simp only [mk_size]
          have e1 : (if pre = [] then ([] : List UInt8) else [44]).length = if pre = [] then 0 else 1 := by split <;> rfl
          rw [e1] at hl5
          simp only [if_true] at hl5
          omega
        by_cases hpre : pre = []
        · have hp0 : ¬ 0 < pre.length := by rw [hpre]; simp
          have hk0 : pre.length = 0 := by rw [hpre]; rfl
          simp only [hk0, Nat.add_zero] at b0 n0
          rw [if_pos hpre] at HA4 hsum
          have HC : Hid ((((ByteArray.mk L'.toArray ++ ByteArray.mk (prL false (d + 1)).toArray) ++ ByteArray.mk (quo u.nd.name).toArray) ++ ByteArray.mk #[58]) ++ ByteArray.mk (prT false (d + 1) u).toArray = ⟨(L' ++ [] ++ prL false (d + 1) ++ prN false u.nd.name ++ prT false (d + 1) u).toArray⟩) := Lib.hid (by
            exact ByteArray.ext (by simp [prN]))
          generalize ByteArray.mk L'.toArray = Y1 at *
          generalize ByteArray.mk (prL false (d + 1)).toArray = Y2 at *
          generalize ByteArray.mk (prT false (d + 1) u).toArray = Y3 at *
          generalize ByteArray.mk (quo u.nd.name).toArray = Y4 at *
          go_wp2_with fail
          refine (HL.out _).mono ?_
          rintro e w3 ⟨rfl, rfl⟩
          go_wp2_with fail
          refine (HQN.out _).mono ?_
          rintro e w4 ⟨rfl, hb4⟩
          have HB4 : Hid (Below w2.heap.size w2 w4) := Lib.hid (HB3.out.trans (hb4.mono HB3.out.size))
          have b1 := (hb4.cell (Nat.lt_of_lt_of_le hg8 HB3.out.size)).trans b0
          have HB44 := Lib.hid hb4
          clear hb4
          go_wp2_with fail
          refine (HVU.out _ HB44.out).mono ?_
          rintro e w5 ⟨rfl, hb5⟩
          have HB9 : Hid (Below w2.heap.size w2 w5) := Lib.hid (HB4.out.trans (hb5.mono HB4.out.size))
          clear hb5
          go_wp2_with fail
          go_roundw
          case rel => exact ⟨pre ++ [u], us2, _, by rw [HPP.out]; simp, by first | (simp; done) | go_num, by rw [← HC.out], Lib.hid (.inr ⟨by simp, by have := HA4.out; simp only [if_true] at this; exact this⟩), HB9⟩
          case measure => simp [intOf]; omega
        · have hp0 : 0 < pre.length := List.length_pos_iff.2 hpre
          rw [if_neg hpre] at HA4 hsum
          have HC : Hid (((((ByteArray.mk L'.toArray ++ ByteArray.mk #[44]) ++ ByteArray.mk (prL false (d + 1)).toArray) ++ ByteArray.mk (quo u.nd.name).toArray) ++ ByteArray.mk #[58]) ++ ByteArray.mk (prT false (d + 1) u).toArray = ⟨(L' ++ [44] ++ prL false (d + 1) ++ prN false u.nd.name ++ prT false (d + 1) u).toArray⟩) := Lib.hid (by
            exact ByteArray.ext (by simp [prN]))
          generalize ByteArray.mk L'.toArray = Y1 at *
          generalize ByteArray.mk (prL false (d + 1)).toArray = Y2 at *
          generalize ByteArray.mk (prT false (d + 1) u).toArray = Y3 at *
          generalize ByteArray.mk (quo u.nd.name).toArray = Y4 at *
          go_wp2_with fail
          refine (HL.out _).mono ?_
          rintro e w3 ⟨rfl, rfl⟩
          go_wp2_with fail
          refine (HQN.out _).mono ?_
          rintro e w4 ⟨rfl, hb4⟩
          have HB4 : Hid (Below w2.heap.size w2 w4) := Lib.hid (HB3.out.trans (hb4.mono HB3.out.size))
          have b1 := (hb4.cell (Nat.lt_of_lt_of_le hg8 HB3.out.size)).trans b0
          have HB44 := Lib.hid hb4
          clear hb4
          go_wp2_with fail
          refine (HVU.out _ HB44.out).mono ?_
          rintro e w5 ⟨rfl, hb5⟩
          have HB9 : Hid (Below w2.heap.size w2 w5) := Lib.hid (HB4.out.trans (hb5.mono HB4.out.size))
          clear hb5
          go_wp2_with fail
          go_roundw
          case rel => exact ⟨pre ++ [u], us2, _, by rw [HPP.out]; simp, by first | (simp; done) | go_num, by rw [← HC.out], Lib.hid (.inr ⟨by simp, by have := HA4.out; simp only [if_true] at this; exact this⟩), HB9⟩
          case measure => simp [intOf]; omega
end Go.Proofs.YtafbojiojeemoaaGreatDoor

/-
  The document's own texts of a value: what line, Scalar, printed, Compact and Indent of louperef04 answer.
-/
namespace Go.Proofs.YtafbojiojeemoaaGreatDoor
open Go.RowKit Np Rw Vp Up Qp Tp

set_option maxRecDepth 100000 in
set_option maxHeartbeats 16000000 in
theorem refPrinted_ArrL (N : Nat) (hI : PrI true N) (t : Tr Nd) (hN : (flat t).length ≤ N + 1) (hk : t.nd.kind = 5) (d : Nat) (v : Value) (w : World) (hv : Nds w v (flat t)) (ht : Val t) (hF : ∀ x ∈ flat t, FitN x) (hd : d + (flat t).length ≤ 1000) (hlen : (prT true d t).length ≤ 100000000) :
    Calls Tryz.prog 37 #[v, .int .i64 ((d : Int))] w fun e w' => e = .returned (.string ⟨(prT true d t).toArray⟩) ∧ Below w.heap.size w w' := by
  have HI := Lib.hid hI
  have HFF := Lib.hid hF
  have HVT := Lib.hid ht
  have hpr : prT true d t = 91 :: (prB true d false t.ks ++ [93]) := by
    obtain ⟨n, ks⟩ := t
    have hk' : n.kind = 5 := hk
    rw [prT_mk, if_pos hk']; rfl
  have HPR := Lib.hid hpr
  have hvo := hv
  obtain ⟨g, o, c, rfl, hc, hcm, hg, hx⟩ := hvo.opened (flat_pos t)
  have a0 : w.cell? ⟨g, o, none⟩ = some (.int .i64 5) := by
    have := (hx 0 t.nd (by rw [flat_eq]; rfl)).nd.c0
    rw [hk] at this
    simpa using this
  have HPA := Lib.hid (refParts_any _ t w hv (by omega) ht)
  have HNA := Lib.hid (fun W hb => refNames_any _ t W (hv.below hb) (by omega) ht)
  have HNM : Hid (namesT t = ([] : List (List UInt8))) := Lib.hid (by unfold namesT; rw [if_neg (by rw [hk]; decide)])
  have hfl : (flat t).length = 1 + (flats t.ks).length := by rw [flat_eq]; simp; omega
  have HFL := Lib.hid hfl
  have HNN := Lib.hid hN
  have HD := Lib.hid hd
  have HLEN := Lib.hid hlen
  have hq9 : t.ks.length ≤ 999 := by have := flats_len t.ks; omega
  have hd9 : d ≤ 999 := by have := flat_pos t; omega
  have hn0 : 0 < (flat t).length := flat_pos t
  clear hx hv hvo hfl hN hd hlen hF hpr
  generalize (flat t).length = n at HFL HNN HD hc HPA HNA hn0 ⊢
  generalize hXX : prT true d t = X at HPR HLEN ⊢
  go_enter Tryz.func37, Tryz.ntmps37
  go_wp2_with fail
  refine HPA.out.mono ?_
  rintro e w1 h1
  obtain ⟨A1, c1, rfl, hp1, hb1⟩ := h1.is (n := t.ks.length) (by simp)
  obtain ⟨us, hul, ⟨A1', c1', hv1, -, -, -, hx1⟩, hue⟩ := hp1
  injection hv1 with e1 e2 e3
  subst e1 e3
  rw [← e2] at hx1
  have HX1 := Lib.hid hx1
  have HUE := Lib.hid hue
  have HUL : Hid (us.length = t.ks.length) := Lib.hid e2.symm
  have HB1 := Lib.hid hb1
  clear hul hx1 hue e2 h1 hb1
  generalize hq : t.ks.length = q at *
  have HQ := Lib.hid hq
  clear hq
  go_wp2_with fail
  refine (HNA.out _ HB1.out).mono ?_
  rintro e w2 ⟨v2, rfl, hs2, hb2⟩
  rw [HNM.out] at hs2
  obtain ⟨A2, c2, rfl, -, -, -, hx2⟩ := hs2
  have hz2 : (([] : List (List UInt8))).length = 0 := by first | rfl | (rw [List.length_map]; exact HQ.out)
  rw [hz2] at hx2 ⊢
  have HX2 := Lib.hid hx2
  have HB2 := Lib.hid (Below.after HB1.out hb2)
  have HPS : Hid (∀ k x, us[k]? = some x → ∃ g8 o8 : Nat, A1 = some ⟨g8, o8, none⟩ ∧ g8 < w2.heap.size ∧ w2.cell? ⟨g8, o8 + k, none⟩ = some x) := Lib.hid (fun k x hk => by
    have hk1 := (List.getElem?_eq_some_iff.1 hk).1
    obtain ⟨g8, o8, hA, hg8, hx8⟩ := HX1.out (by have := HUL.out; have := HQ.out; omega)
    exact ⟨g8, o8, hA, Nat.lt_of_lt_of_le hg8 hb2.size, (hb2.cell (p := ⟨g8, o8 + k, none⟩) hg8).trans (hx8 k x hk).one⟩)
  have HPE : Hid (∀ (k : Nat) x u, us[k]? = some x → t.ks[k]? = some u → Nds w2 x (flat (nmd [] u))) := Lib.hid (fun k x u h1 h2 => (HUE.out k x _ h1 (by rw [List.getElem?_map, h2]; rfl)).below hb2)
  clear hx2 hb2 hz2 HX1 HUE HNA HPA HB1
  by_cases hq0 : q = 0
  · have hks : t.ks = [] := List.eq_nil_of_length_eq_zero (by rw [HQ.out]; exact hq0)
    have HE : Hid (X = [91, 93]) := Lib.hid (by rw [HPR.out, hks, prB_nil]; rfl)
    subst hq0
    clear hks
    go_wp2_with fail
    go_ret
    exact ⟨by rw [HE.out]; rfl, HB2.out⟩
  · have hqi : ((q : Int) == 0) = false := by simp; omega
    have hqp : 0 < q := by omega
    go_wp2_with fail
    go_loopw [10, 11] (fun sv iv wr => ∃ (pre post : List (Tr Nd)) (L' : List UInt8), t.ks = pre ++ post ∧ iv = .int .i64 (pre.length : Nat) ∧ sv = .string ⟨L'.toArray⟩ ∧ Hid (At true d false t.ks pre post [91] L') ∧ Hid (Below w2.heap.size w2 wr)) (fun _ iv _ => q - (intOf iv).toNat)
    case atStart => exact ⟨[], t.ks, [91], rfl, rfl, rfl, Lib.hid (.inl ⟨rfl, rfl⟩), Lib.hid (Below.refl _ _)⟩
    case round =>
      obtain ⟨pre, post, L', hpp, rfl, rfl, HA3, HB3⟩ := hrel
      have hlen : pre.length + post.length = q := by rw [← HQ.out, hpp]; simp
      have HPP := Lib.hid hpp
      clear hpp
      cases post with
      | nil =>
        have hpm : pre.length = q := by simpa using hlen
        have HT : Hid (X = L' ++ prL true d ++ [93]) := Lib.hid (by
          rw [HPR.out]
          rcases HA3.out with ⟨h, -⟩ | ⟨-, h⟩
          · subst h; simp at hpm; omega
          · rw [prK_nil] at h; rw [h]; simp)
        have hl3 : (L' ++ prL true d ++ [93]).length ≤ 100000000 := by have := HLEN.out; rw [HT.out] at this; exact this
        have hsz := hl3
        simp only [List.length_append, List.length_singleton] at hsz
        have hs1 : (ByteArray.mk L'.toArray).size ≤ 100000000 := by rw [mk_size]; omega
        have HL := Lib.hid (fun W => refLine_any true d W (by omega))
        rw [show dv true d = (d : Int) from rfl] at HL
        have HC : Hid ((ByteArray.mk L'.toArray ++ ByteArray.mk (prL true d).toArray) ++ ByteArray.mk #[93] = ⟨X.toArray⟩) := Lib.hid (by rw [HT.out]; exact ByteArray.ext (by simp))
        have hs2 : (ByteArray.mk (prL true d).toArray).size ≤ 100000000 := by rw [mk_size]; omega
        generalize ByteArray.mk L'.toArray = Y1 at *
        generalize ByteArray.mk (prL true d).toArray = Y2 at *
        subst hpm
        go_upto_region 24 with fail
        go_region_with (go_at_call 74; refine (HL.out _).mono ?_; rintro e w3 ⟨rfl, rfl⟩)
        all_goals go_wp2_with fail
        all_goals go_ret
        all_goals exact ⟨ret_str HC.out, by first | exact Below.after HB2.out HB3.out | exact drewN_below (Below.after HB2.out HB3.out) _⟩
      | cons u us2 =>
        simp only [List.length_cons] at hlen
        have hui : u ∈ t.ks := by rw [HPP.out]; simp
        have huk : t.ks[pre.length]? = some u := by rw [HPP.out]; simp
        have hpl : pre.length < q := by omega
        obtain ⟨x, hxk⟩ : ∃ a, us[pre.length]? = some a := ⟨_, List.getElem?_eq_getElem (by rw [HUL.out]; have := HQ.out; omega)⟩
        obtain ⟨g8, o8, rfl, hg8, hx8⟩ := HPS.out _ _ hxk
        have b0 := (HB3.out.cell (p := ⟨g8, o8 + pre.length, none⟩) hg8).trans hx8
        have HRX : Hid (Nds wr x (flat (nmd [] u))) := Lib.hid ((HPE.out _ x u hxk huk).below HB3.out)
        have hft : (flat u).length ≤ (flats t.ks).length := len_flats hui
        have HA4 := Lib.hid (HA3.out.next HPP.out)
        have hl4 : (L' ++ (if pre = [] then [] else [44]) ++ prL true (d + 1) ++ (if false = true then prN true u.nd.name else []) ++ prT true (d + 1) u).length ≤ 100000000 := by
          have h1 := HLEN.out
          rw [HPR.out, ← List.singleton_append, ← List.append_assoc, ← HA4.out, List.length_append, List.length_append] at h1
          omega
        have hl5 := hl4
        simp only [List.length_append] at hl5
        have HVU := Lib.hid (fun W (hb : Below wr.heap.size wr W) => HI.out (nmd [] u) (by rw [flat_nmd_len]; have := HFL.out; have := HNN.out; omega) (d + 1) x W (HRX.out.below hb) (val_clr HVT.out hui) (fun y hy => by
          rw [flat_eq, List.mem_cons] at hy
          have hmem : ∀ z ∈ flat u, z ∈ flat t := fun z hz => by
            rw [flat_eq, List.mem_cons]; right
            obtain ⟨a, c, e⟩ := List.append_of_mem hui
            rw [e, flats_append, flats_cons]; simp [hz]
          rcases hy with rfl | hy
          · have := HFF.out u.nd (hmem _ (by rw [flat_eq]; simp))
            rw [nmd_nd]
            exact ⟨this.k0, this.k6, this.s, by simp [nmN], this.e0, this.e1⟩
          · rw [nmd_ks] at hy
            exact HFF.out y (hmem _ (by rw [flat_eq]; exact List.mem_cons_of_mem _ hy))) (by rw [flat_nmd_len]; have := HFL.out; have := HD.out; omega) (by rw [prT_clr]; omega))
        rw [prT_clr] at HVU
        have hdv : dv true (d + 1) = ((d + 1 : Nat) : Int) := by first | rfl | (unfold dv; simp)
        rw [hdv] at HVU
        have HL := Lib.hid (fun W => refLine_any true (d + 1) W (by omega))
        rw [hdv] at HL
        skip
        have hsL : (ByteArray.mk (prL true (d + 1)).toArray).size ≤ 100000000 := by rw [mk_size]; omega
        have hsT : (ByteArray.mk (prT true (d + 1) u).toArray).size ≤ 100000000 := by rw [mk_size]; omega
        have hs1 : (ByteArray.mk L'.toArray).size ≤ 100000000 := by rw [mk_size]; omega
        have hsum : (ByteArray.mk L'.toArray).size + (if pre = [] then 0 else 1) + (ByteArray.mk (prL true (d + 1)).toArray).size + 0 + (ByteArray.mk (prT true (d + 1) u).toArray).size ≤ 100000000 := by
          simp only [mk_size]
          have e1 : (if pre = [] then ([] : List UInt8) else [44]).length = if pre = [] then 0 else 1 := by split <;> rfl
          rw [e1] at hl5
          omega
        by_cases hpre : pre = []
        · have hp0 : ¬ 0 < pre.length := by rw [hpre]; simp
          have hk0 : pre.length = 0 := by rw [hpre]; rfl
          simp only [hk0, Nat.add_zero] at b0
          rw [if_pos hpre] at HA4 hsum
          have HC : Hid ((ByteArray.mk L'.toArray ++ ByteArray.mk (prL true (d + 1)).toArray) ++ ByteArray.mk (prT true (d + 1) u).toArray = ⟨(L' ++ [] ++ prL true (d + 1) ++ [] ++ prT true (d + 1) u).toArray⟩) := Lib.hid (by
            exact ByteArray.ext (by simp))
          generalize ByteArray.mk L'.toArray = Y1 at *
          generalize ByteArray.mk (prL true (d + 1)).toArray = Y2 at *
          generalize ByteArray.mk (prT true (d + 1) u).toArray = Y3 at *
          go_wp2_with fail
          refine (HL.out _).mono ?_
          rintro e w3 ⟨rfl, rfl⟩
          go_wp2_with fail
          refine (HVU.out _ (Below.refl _ _)).mono ?_
          rintro e w5 ⟨rfl, hb5⟩
          have HB9 : Hid (Below w2.heap.size w2 w5) := Lib.hid (HB3.out.trans (hb5.mono HB3.out.size))
          clear hb5
          go_wp2_with fail
          go_roundw
          case rel => exact ⟨pre ++ [u], us2, _, by rw [HPP.out]; simp, by first | (simp; done) | go_num, by rw [← HC.out], Lib.hid (.inr ⟨by simp, by have := HA4.out; rwa [if_neg (by decide)] at this⟩), HB9⟩
          case measure => simp [intOf]; omega
        · have hp0 : 0 < pre.length := List.length_pos_iff.2 hpre
          rw [if_neg hpre] at HA4 hsum
          have HC : Hid (((ByteArray.mk L'.toArray ++ ByteArray.mk #[44]) ++ ByteArray.mk (prL true (d + 1)).toArray) ++ ByteArray.mk (prT true (d + 1) u).toArray = ⟨(L' ++ [44] ++ prL true (d + 1) ++ [] ++ prT true (d + 1) u).toArray⟩) := Lib.hid (by
            exact ByteArray.ext (by simp))
          generalize ByteArray.mk L'.toArray = Y1 at *
          generalize ByteArray.mk (prL true (d + 1)).toArray = Y2 at *
          generalize ByteArray.mk (prT true (d + 1) u).toArray = Y3 at *
          go_wp2_with fail
          refine (HL.out _).mono ?_
          rintro e w3 ⟨rfl, rfl⟩
          go_wp2_with fail
          refine (HVU.out _ (Below.refl _ _)).mono ?_
          rintro e w5 ⟨rfl, hb5⟩
          have HB9 : Hid (Below w2.heap.size w2 w5) := Lib.hid (HB3.out.trans (hb5.mono HB3.out.size))
          clear hb5
          go_wp2_with fail
          go_roundw
          case rel => exact ⟨pre ++ [u], us2, _, by rw [HPP.out]; simp, by first | (simp; done) | go_num, by rw [← HC.out], Lib.hid (.inr ⟨by simp, by have := HA4.out; rwa [if_neg (by decide)] at this⟩), HB9⟩
          case measure => simp [intOf]; omega
end Go.Proofs.YtafbojiojeemoaaGreatDoor

/-
  The document's own texts of a value: what line, Scalar, printed, Compact and Indent of louperef04 answer.
-/
namespace Go.Proofs.YtafbojiojeemoaaGreatDoor
open Go.RowKit Np Rw Vp Up Qp Tp

set_option maxRecDepth 100000 in
set_option maxHeartbeats 16000000 in
theorem refPrinted_ObjL (N : Nat) (hI : PrI true N) (t : Tr Nd) (hN : (flat t).length ≤ N + 1) (hk : t.nd.kind = 6) (d : Nat) (v : Value) (w : World) (hv : Nds w v (flat t)) (ht : Val t) (hF : ∀ x ∈ flat t, FitN x) (hd : d + (flat t).length ≤ 1000) (hlen : (prT true d t).length ≤ 100000000) :
    Calls Tryz.prog 37 #[v, .int .i64 ((d : Int))] w fun e w' => e = .returned (.string ⟨(prT true d t).toArray⟩) ∧ Below w.heap.size w w' := by
  have HI := Lib.hid hI
  have HFF := Lib.hid hF
  have HVT := Lib.hid ht
  have hpr : prT true d t = 123 :: (prB true d true t.ks ++ [125]) := by
    obtain ⟨n, ks⟩ := t
    have hk' : n.kind = 6 := hk
    rw [prT_mk, if_neg (by rw [hk']; decide), if_pos hk']; rfl
  have HPR := Lib.hid hpr
  have hvo := hv
  obtain ⟨g, o, c, rfl, hc, hcm, hg, hx⟩ := hvo.opened (flat_pos t)
  have a0 : w.cell? ⟨g, o, none⟩ = some (.int .i64 6) := by
    have := (hx 0 t.nd (by rw [flat_eq]; rfl)).nd.c0
    rw [hk] at this
    simpa using this
  have HPA := Lib.hid (refParts_any _ t w hv (by omega) ht)
  have HNA := Lib.hid (fun W hb => refNames_any _ t W (hv.below hb) (by omega) ht)
  have HNM : Hid (namesT t = t.ks.map (fun k => k.nd.name)) := Lib.hid (by unfold namesT; rw [if_pos hk])
  have hfl : (flat t).length = 1 + (flats t.ks).length := by rw [flat_eq]; simp; omega
  have HFL := Lib.hid hfl
  have HNN := Lib.hid hN
  have HD := Lib.hid hd
  have HLEN := Lib.hid hlen
  have hq9 : t.ks.length ≤ 999 := by have := flats_len t.ks; omega
  have hd9 : d ≤ 999 := by have := flat_pos t; omega
  have hn0 : 0 < (flat t).length := flat_pos t
  clear hx hv hvo hfl hN hd hlen hF hpr
  generalize (flat t).length = n at HFL HNN HD hc HPA HNA hn0 ⊢
  generalize hXX : prT true d t = X at HPR HLEN ⊢
  go_enter Tryz.func37, Tryz.ntmps37
  go_wp2_with fail
  refine HPA.out.mono ?_
  rintro e w1 h1
  obtain ⟨A1, c1, rfl, hp1, hb1⟩ := h1.is (n := t.ks.length) (by simp)
  obtain ⟨us, hul, ⟨A1', c1', hv1, -, -, -, hx1⟩, hue⟩ := hp1
  injection hv1 with e1 e2 e3
  subst e1 e3
  rw [← e2] at hx1
  have HX1 := Lib.hid hx1
  have HUE := Lib.hid hue
  have HUL : Hid (us.length = t.ks.length) := Lib.hid e2.symm
  have HB1 := Lib.hid hb1
  clear hul hx1 hue e2 h1 hb1
  generalize hq : t.ks.length = q at *
  have HQ := Lib.hid hq
  clear hq
  go_wp2_with fail
  refine (HNA.out _ HB1.out).mono ?_
  rintro e w2 ⟨v2, rfl, hs2, hb2⟩
  rw [HNM.out] at hs2
  obtain ⟨A2, c2, rfl, -, -, -, hx2⟩ := hs2
  have hz2 : (t.ks.map (fun k => k.nd.name)).length = q := by first | rfl | (rw [List.length_map]; exact HQ.out)
  rw [hz2] at hx2 ⊢
  have HX2 := Lib.hid hx2
  have HB2 := Lib.hid (Below.after HB1.out hb2)
  have HPS : Hid (∀ k x, us[k]? = some x → ∃ g8 o8 : Nat, A1 = some ⟨g8, o8, none⟩ ∧ g8 < w2.heap.size ∧ w2.cell? ⟨g8, o8 + k, none⟩ = some x) := Lib.hid (fun k x hk => by
    have hk1 := (List.getElem?_eq_some_iff.1 hk).1
    obtain ⟨g8, o8, hA, hg8, hx8⟩ := HX1.out (by have := HUL.out; have := HQ.out; omega)
    exact ⟨g8, o8, hA, Nat.lt_of_lt_of_le hg8 hb2.size, (hb2.cell (p := ⟨g8, o8 + k, none⟩) hg8).trans (hx8 k x hk).one⟩)
  have HPE : Hid (∀ (k : Nat) x u, us[k]? = some x → t.ks[k]? = some u → Nds w2 x (flat (nmd [] u))) := Lib.hid (fun k x u h1 h2 => (HUE.out k x _ h1 (by rw [List.getElem?_map, h2]; rfl)).below hb2)
  clear hx2 hb2 hz2 HX1 HUE HNA HPA HB1
  by_cases hq0 : q = 0
  · have hks : t.ks = [] := List.eq_nil_of_length_eq_zero (by rw [HQ.out]; exact hq0)
    have HE : Hid (X = [123, 125]) := Lib.hid (by rw [HPR.out, hks, prB_nil]; rfl)
    subst hq0
    clear hks
    go_wp2_with fail
    go_ret
    exact ⟨by rw [HE.out]; rfl, HB2.out⟩
  · have hqi : ((q : Int) == 0) = false := by simp; omega
    have hqp : 0 < q := by omega
    go_wp2_with fail
    go_loopw [10, 11] (fun sv iv wr => ∃ (pre post : List (Tr Nd)) (L' : List UInt8), t.ks = pre ++ post ∧ iv = .int .i64 (pre.length : Nat) ∧ sv = .string ⟨L'.toArray⟩ ∧ Hid (At true d true t.ks pre post [123] L') ∧ Hid (Below w2.heap.size w2 wr)) (fun _ iv _ => q - (intOf iv).toNat)
    case atStart => exact ⟨[], t.ks, [123], rfl, rfl, rfl, Lib.hid (.inl ⟨rfl, rfl⟩), Lib.hid (Below.refl _ _)⟩
    case round =>
      obtain ⟨pre, post, L', hpp, rfl, rfl, HA3, HB3⟩ := hrel
      have hlen : pre.length + post.length = q := by rw [← HQ.out, hpp]; simp
      have HPP := Lib.hid hpp
      clear hpp
      cases post with
      | nil =>
        have hpm : pre.length = q := by simpa using hlen
        have HT : Hid (X = L' ++ prL true d ++ [125]) := Lib.hid (by
          rw [HPR.out]
          rcases HA3.out with ⟨h, -⟩ | ⟨-, h⟩
          · subst h; simp at hpm; omega
          · rw [prK_nil] at h; rw [h]; simp)
        have hl3 : (L' ++ prL true d ++ [125]).length ≤ 100000000 := by have := HLEN.out; rw [HT.out] at this; exact this
        have hsz := hl3
        simp only [List.length_append, List.length_singleton] at hsz
        have hs1 : (ByteArray.mk L'.toArray).size ≤ 100000000 := by rw [mk_size]; omega
        have HL := Lib.hid (fun W => refLine_any true d W (by omega))
        rw [show dv true d = (d : Int) from rfl] at HL
        have HC : Hid ((ByteArray.mk L'.toArray ++ ByteArray.mk (prL true d).toArray) ++ ByteArray.mk #[125] = ⟨X.toArray⟩) := Lib.hid (by rw [HT.out]; exact ByteArray.ext (by simp))
        have hs2 : (ByteArray.mk (prL true d).toArray).size ≤ 100000000 := by rw [mk_size]; omega
        generalize ByteArray.mk L'.toArray = Y1 at *
        generalize ByteArray.mk (prL true d).toArray = Y2 at *
        subst hpm
        go_upto_region 24 with fail
        go_region_with (go_at_call 74; refine (HL.out _).mono ?_; rintro e w3 ⟨rfl, rfl⟩)
        all_goals go_wp2_with fail
        all_goals go_ret
        all_goals exact ⟨ret_str HC.out, by first | exact Below.after HB2.out HB3.out | exact drewN_below (Below.after HB2.out HB3.out) _⟩
      | cons u us2 =>
        simp only [List.length_cons] at hlen
        have hui : u ∈ t.ks := by rw [HPP.out]; simp
        have huk : t.ks[pre.length]? = some u := by rw [HPP.out]; simp
        have hpl : pre.length < q := by omega
        obtain ⟨x, hxk⟩ : ∃ a, us[pre.length]? = some a := ⟨_, List.getElem?_eq_getElem (by rw [HUL.out]; have := HQ.out; omega)⟩
        obtain ⟨g8, o8, rfl, hg8, hx8⟩ := HPS.out _ _ hxk
        have b0 := (HB3.out.cell (p := ⟨g8, o8 + pre.length, none⟩) hg8).trans hx8
        have HRX : Hid (Nds wr x (flat (nmd [] u))) := Lib.hid ((HPE.out _ x u hxk huk).below HB3.out)
        have hft : (flat u).length ≤ (flats t.ks).length := len_flats hui
        have HA4 := Lib.hid (HA3.out.next HPP.out)
        have hl4 : (L' ++ (if pre = [] then [] else [44]) ++ prL true (d + 1) ++ (if true = true then prN true u.nd.name else []) ++ prT true (d + 1) u).length ≤ 100000000 := by
          have h1 := HLEN.out
          rw [HPR.out, ← List.singleton_append, ← List.append_assoc, ← HA4.out, List.length_append, List.length_append] at h1
          omega
        have hl5 := hl4
        simp only [List.length_append] at hl5
        have HVU := Lib.hid (fun W (hb : Below wr.heap.size wr W) => HI.out (nmd [] u) (by rw [flat_nmd_len]; have := HFL.out; have := HNN.out; omega) (d + 1) x W (HRX.out.below hb) (val_clr HVT.out hui) (fun y hy => by
          rw [flat_eq, List.mem_cons] at hy
          have hmem : ∀ z ∈ flat u, z ∈ flat t := fun z hz => by
            rw [flat_eq, List.mem_cons]; right
            obtain ⟨a, c, e⟩ := List.append_of_mem hui
            rw [e, flats_append, flats_cons]; simp [hz]
          rcases hy with rfl | hy
          · have := HFF.out u.nd (hmem _ (by rw [flat_eq]; simp))
            rw [nmd_nd]
            exact ⟨this.k0, this.k6, this.s, by simp [nmN], this.e0, this.e1⟩
          · rw [nmd_ks] at hy
            exact HFF.out y (hmem _ (by rw [flat_eq]; exact List.mem_cons_of_mem _ hy))) (by rw [flat_nmd_len]; have := HFL.out; have := HD.out; omega) (by rw [prT_clr]; omega))
        rw [prT_clr] at HVU
        have hdv : dv true (d + 1) = ((d + 1 : Nat) : Int) := by first | rfl | (unfold dv; simp)
        rw [hdv] at HVU
        have HL := Lib.hid (fun W => refLine_any true (d + 1) W (by omega))
        rw [hdv] at HL
        have hqn : (quo u.nd.name).length + 2 = (prN true u.nd.name).length := by rw [prN_len]; simp
        have hmu : u.nd ∈ flat t := by
          rw [flat_eq, List.mem_cons]; right
          obtain ⟨a, c, e⟩ := List.append_of_mem hui
          rw [e, flats_append, flats_cons, flat_eq u]; simp
        have hnml := (HFF.out u.nd hmu).nm
        have HQN := Lib.hid (fun W => refQuote_any ⟨u.nd.name.toArray⟩ W (by rw [mk_size]; omega))
        simp only at HQN
        have hnk : (t.ks.map fun k => k.nd.name)[pre.length]? = some u.nd.name := by rw [List.getElem?_map, huk]; rfl
        obtain ⟨g9, o9, rfl, hg9, hx9⟩ := HX2.out (by omega)
        have n0 := (HB3.out.cell (p := ⟨g9, o9 + pre.length, none⟩) hg9).trans (hx9 _ _ hnk).one
        have hsQ : (ByteArray.mk (quo u.nd.name).toArray).size ≤ 100000000 := by rw [mk_size]; simp only [if_true] at hl5; omega
        have hsL : (ByteArray.mk (prL true (d + 1)).toArray).size ≤ 100000000 := by rw [mk_size]; omega
        have hsT : (ByteArray.mk (prT true (d + 1) u).toArray).size ≤ 100000000 := by rw [mk_size]; omega
        have hs1 : (ByteArray.mk L'.toArray).size ≤ 100000000 := by rw [mk_size]; omega
        have hsum : (ByteArray.mk L'.toArray).size + (if pre = [] then 0 else 1) + (ByteArray.mk (prL true (d + 1)).toArray).size + (ByteArray.mk (quo u.nd.name).toArray).size + 2 + (ByteArray.mk (prT true (d + 1) u).toArray).size ≤ 100000000 := by
          simp only [mk_size]
          have e1 : (if pre = [] then ([] : List UInt8) else [44]).length = if pre = [] then 0 else 1 := by split <;> rfl
          rw [e1] at hl5
          simp only [if_true] at hl5
          omega
        by_cases hpre : pre = []
        · have hp0 : ¬ 0 < pre.length := by rw [hpre]; simp
          have hk0 : pre.length = 0 := by rw [hpre]; rfl
          simp only [hk0, Nat.add_zero] at b0 n0
          rw [if_pos hpre] at HA4 hsum
          have HC : Hid ((((ByteArray.mk L'.toArray ++ ByteArray.mk (prL true (d + 1)).toArray) ++ ByteArray.mk (quo u.nd.name).toArray) ++ ByteArray.mk #[58, 32]) ++ ByteArray.mk (prT true (d + 1) u).toArray = ⟨(L' ++ [] ++ prL true (d + 1) ++ prN true u.nd.name ++ prT true (d + 1) u).toArray⟩) := Lib.hid (by
            exact ByteArray.ext (by simp [prN]))
          generalize ByteArray.mk L'.toArray = Y1 at *
          generalize ByteArray.mk (prL true (d + 1)).toArray = Y2 at *
          generalize ByteArray.mk (prT true (d + 1) u).toArray = Y3 at *
          generalize ByteArray.mk (quo u.nd.name).toArray = Y4 at *
          go_wp2_with fail
          refine (HL.out _).mono ?_
          rintro e w3 ⟨rfl, rfl⟩
          go_wp2_with fail
          refine (HQN.out _).mono ?_
          rintro e w4 ⟨rfl, hb4⟩
          have HB4 : Hid (Below w2.heap.size w2 w4) := Lib.hid (HB3.out.trans (hb4.mono HB3.out.size))
          have b1 := (hb4.cell (Nat.lt_of_lt_of_le hg8 HB3.out.size)).trans b0
          have HB44 := Lib.hid hb4
          clear hb4
          go_wp2_with fail
          refine (HVU.out _ HB44.out).mono ?_
          rintro e w5 ⟨rfl, hb5⟩
          have HB9 : Hid (Below w2.heap.size w2 w5) := Lib.hid (HB4.out.trans (hb5.mono HB4.out.size))
          clear hb5
          go_wp2_with fail
          go_roundw
          case rel => exact ⟨pre ++ [u], us2, _, by rw [HPP.out]; simp, by first | (simp; done) | go_num, by rw [← HC.out], Lib.hid (.inr ⟨by simp, by have := HA4.out; simp only [if_true] at this; exact this⟩), HB9⟩
          case measure => simp [intOf]; omega
        · have hp0 : 0 < pre.length := List.length_pos_iff.2 hpre
          rw [if_neg hpre] at HA4 hsum
          have HC : Hid (((((ByteArray.mk L'.toArray ++ ByteArray.mk #[44]) ++ ByteArray.mk (prL true (d + 1)).toArray) ++ ByteArray.mk (quo u.nd.name).toArray) ++ ByteArray.mk #[58, 32]) ++ ByteArray.mk (prT true (d + 1) u).toArray = ⟨(L' ++ [44] ++ prL true (d + 1) ++ prN true u.nd.name ++ prT true (d + 1) u).toArray⟩) := Lib.hid (by
            exact ByteArray.ext (by simp [prN]))
          generalize ByteArray.mk L'.toArray = Y1 at *
          generalize ByteArray.mk (prL true (d + 1)).toArray = Y2 at *
          generalize ByteArray.mk (prT true (d + 1) u).toArray = Y3 at *
          generalize ByteArray.mk (quo u.nd.name).toArray = Y4 at *
          go_wp2_with fail
          refine (HL.out _).mono ?_
          rintro e w3 ⟨rfl, rfl⟩
          go_wp2_with fail
          refine (HQN.out _).mono ?_
          rintro e w4 ⟨rfl, hb4⟩
          have HB4 : Hid (Below w2.heap.size w2 w4) := Lib.hid (HB3.out.trans (hb4.mono HB3.out.size))
          have b1 := (hb4.cell (Nat.lt_of_lt_of_le hg8 HB3.out.size)).trans b0
          have HB44 := Lib.hid hb4
          clear hb4
          go_wp2_with fail
          refine (HVU.out _ HB44.out).mono ?_
          rintro e w5 ⟨rfl, hb5⟩
          have HB9 : Hid (Below w2.heap.size w2 w5) := Lib.hid (HB4.out.trans (hb5.mono HB4.out.size))
          clear hb5
          go_wp2_with fail
          go_roundw
          case rel => exact ⟨pre ++ [u], us2, _, by rw [HPP.out]; simp, by first | (simp; done) | go_num, by rw [← HC.out], Lib.hid (.inr ⟨by simp, by have := HA4.out; simp only [if_true] at this; exact this⟩), HB9⟩
          case measure => simp [intOf]; omega

end Go.Proofs.YtafbojiojeemoaaGreatDoor

/-
  The document's own texts of a value: what line, Scalar, printed, Compact and Indent of louperef04 answer.
-/
namespace Go.Proofs.YtafbojiojeemoaaGreatDoor
open Go.RowKit Np Rw Vp Up Qp Tp

theorem refPrinted (ln : Bool) : ∀ N, PrI ln N
  | 0 => fun t h => by have := flat_pos t; omega
  | N + 1 => fun t h d v w hv ht hF hd hl => by
    by_cases h5 : t.nd.kind = 5
    · cases ln with
      | false => exact refPrinted_ArrC N (refPrinted false N) t h h5 d v w hv ht hF hd hl
      | true => exact refPrinted_ArrL N (refPrinted true N) t h h5 d v w hv ht hF hd hl
    by_cases h6 : t.nd.kind = 6
    · cases ln with
      | false => exact refPrinted_ObjC N (refPrinted false N) t h h6 d v w hv ht hF hd hl
      | true => exact refPrinted_ObjL N (refPrinted true N) t h h6 d v w hv ht hF hd hl
    · exact refPrinted_leaf ln t d v w hv ht hF h5 h6
theorem refCompact_any (t : Tr Nd) (v : Value) (w : World) (hv : Nds w v (flat t)) (ht : Val t) (hF : ∀ x ∈ flat t, FitN x) (hd : (flat t).length ≤ 1000) (hl : (prT false 0 t).length ≤ 100000000) :
    Calls Tryz.prog 14 #[v] w fun e w' => e = .returned (.string ⟨(prT false 0 t).toArray⟩) ∧ Below w.heap.size w w' := by
  have HP := Lib.hid (refPrinted false _ t (Nat.le_refl _) 0 v w hv ht hF (by omega) hl)
  obtain ⟨A, N, c, rfl⟩ : ∃ (A : Option Addr) (N c : Nat), v = .slice A N c := by obtain ⟨A, c, h, -⟩ := hv; exact ⟨A, _, c, h⟩
  generalize prT false 0 t = X at *
  go_enter Tryz.func14, Tryz.ntmps14
  go_wp2_with fail
  refine HP.out.mono ?_
  rintro e w1 ⟨rfl, hb1⟩
  go_wp2_with fail
  go_ret
  exact ⟨rfl, hb1⟩
theorem refIndent_any (t : Tr Nd) (v : Value) (w : World) (hv : Nds w v (flat t)) (ht : Val t) (hF : ∀ x ∈ flat t, FitN x) (hd : (flat t).length ≤ 1000) (hl : (prT true 0 t).length ≤ 100000000) :
    Calls Tryz.prog 16 #[v] w fun e w' => e = .returned (.string ⟨(prT true 0 t).toArray⟩) ∧ Below w.heap.size w w' := by
  have HP := Lib.hid (refPrinted true _ t (Nat.le_refl _) 0 v w hv ht hF (by omega) hl)
  obtain ⟨A, N, c, rfl⟩ : ∃ (A : Option Addr) (N c : Nat), v = .slice A N c := by obtain ⟨A, c, h, -⟩ := hv; exact ⟨A, _, c, h⟩
  generalize prT true 0 t = X at *
  go_enter Tryz.func16, Tryz.ntmps16
  go_wp2_with fail
  refine HP.out.mono ?_
  rintro e w1 ⟨rfl, hb1⟩
  go_wp2_with fail
  go_ret
  exact ⟨rfl, hb1⟩
end Go.Proofs.YtafbojiojeemoaaGreatDoor

/-
  The walk of TextPrints: it answers true.
-/
namespace Go.Proofs.YtafbojiojeemoaaGreatDoor
open Go.RowKit Np Rw Vp Up Qp Tp

set_option maxRecDepth 100000 in
set_option maxHeartbeats 4000000 in
theorem textPrints_any (v : Value) (l : List Nd) (w : World) (hv : Nds w v l) (hT : Tv w) :
    Calls Tryz.prog 4 #[v] w fun e w' => e = .returned (.bool true) ∧ Below w.heap.size w w' := by
  have HT := Lib.hid hT
  have HV := Lib.hid hv
  have HFE := Lib.hid (refFew_any v l 60 w hv (by omega))
  obtain ⟨A0, N0, c0, rfl⟩ : ∃ (A : Option Addr) (N c : Nat), v = .slice A N c := by obtain ⟨A, c, h, -⟩ := hv; exact ⟨A, _, c, h⟩
  clear hv hT
  cases hf : few 60 l with
  | false =>
    rw [hf] at HFE
    go_enter Tryz.func4, Tryz.ntmps4
    go_wp2_with fail
    refine HFE.out.mono ?_
    rintro e w1 ⟨rfl, hb1⟩
    have HB1 := Lib.hid hb1
    clear hb1
    go_wp2_with fail
    refine (alive_any _ (HT.out.below HB1.out)).mono ?_
    rintro e w2 ⟨rfl, hb2⟩
    go_wp2_with fail
    go_ret
    exact ⟨rfl, Below.after HB1.out hb2⟩
  | true =>
    rw [hf] at HFE
    obtain ⟨t, rfl, hK, hX⟩ := texts_known hf
    have HX := Lib.hid hX
    have hfit : ∀ x ∈ flat t, FitN x := fun x hx => fit_plain (val_plain hK.val x hx) (by have := (hK.sh x hx).1; omega) (by have := (hK.sh x hx).2; omega)
    have HC := Lib.hid (fun W hb => refCompact_any t (.slice A0 N0 c0) W (HV.out.below hb) hK.val hfit (by have := hK.len; omega) (by have := hK.zc; omega))
    have HI := Lib.hid (fun W hb => refIndent_any t (.slice A0 N0 c0) W (HV.out.below hb) hK.val hfit (by have := hK.len; omega) (by have := hK.zi; omega))
    clear hX hK hf hfit
    generalize prT false 0 t = X at *
    generalize prT true 0 t = Y at *
    go_enter Tryz.func4, Tryz.ntmps4
    go_wp2_with fail
    refine HFE.out.mono ?_
    rintro e w1 ⟨rfl, hb1⟩
    have HB1 := Lib.hid hb1
    clear hb1
    go_wp2_with fail
    refine (alive_any _ (HT.out.below HB1.out)).mono ?_
    rintro e w2 ⟨rfl, hb2⟩
    have HB2 := Lib.hid (Below.after HB1.out hb2)
    clear hb2
    go_wp2_with fail
    refine (HX.out.c _ _ (HV.out.below HB2.out) (HT.out.below HB2.out)).mono ?_
    rintro e w3 ⟨rfl, hb3⟩
    have HB3 := Lib.hid (Below.after HB2.out hb3)
    clear hb3
    go_wp2_with fail
    refine (HC.out _ HB3.out).mono ?_
    rintro e w4 ⟨rfl, hb4⟩
    have HB4 := Lib.hid (Below.after HB3.out hb4)
    clear hb4
    go_wp2_with fail
    refine (HX.out.i _ _ (HV.out.below HB4.out) (HT.out.below HB4.out)).mono ?_
    rintro e w5 ⟨rfl, hb5⟩
    have HB5 := Lib.hid (Below.after HB4.out hb5)
    clear hb5
    go_wp2_with fail
    refine (HI.out _ HB5.out).mono ?_
    rintro e w6 ⟨rfl, hb6⟩
    have HB6 := Lib.hid (Below.after HB5.out hb6)
    clear hb6
    go_wp2_with fail
    go_ret
    exact ⟨ret_bool (by first | rfl | simp), HB6.out⟩
end Go.Proofs.YtafbojiojeemoaaGreatDoor

/-
  The statement TextPrints holds: called with any value, whatever lies in memory, it returns true, and each argument reads as it read before. Conditions: the listed variables of the library (two tables of bits, one of powers of ten, two of UTF-8, strconv's two errors) and the program's table of words read as the program's text lays them (the tie is given).
-/
namespace Go.Proofs.YtafbojiojeemoaaGreatDoor
open Go.ChangeShapes Go.WideShapes Go.ChangeAt Go.RowKit Go.ChangeMaps

set_option maxRecDepth 100000 in
theorem textPrints_lifted (os : Os) (started : os.Started) (H : Type) (enc : TypeId × Value → H) :
    ReturnsInHanded {} Tryz.checked os 4 .any (fun w args => (Rows.textPrintsSpec.pre enc Tryz.prog Tryz.f4 [] false w args ∧ laidMetH Tryz.prog seatLaid w) ∧ sizedMet enc Tryz.prog Tryz.f4 (OpenSpec.ofChange Rows.textPrintsSpec) false w args)
      (Rows.textPrintsSpec.post enc Tryz.prog Tryz.f4 false true false false) := by
  refine returnsInHanded_of_change_and (C := Tryz.checked) (X := fun w _ => laidMetH Tryz.prog seatLaid w) (fun _ _ _ hh h => h.of_heap hh) ownKn started (by kernel_rfl) Tryz.func4
    (ChangeSpec.witness_shaped (enc := enc) (C := Tryz.checked) (os := os) (X := fun w _ => laidMetH Tryz.prog seatLaid w) false (World.laidAll Tryz.prog os seatLaid)
      #[.slice none 0 0] 8 (World.laidAll_os _ _ _)
      (World.shaped_of_ZipB (by kernel_rfl) (by kernel_rfl)) (by kernel_rfl) (by kernel_rfl) (by kernel_rfl) (laid_met os _)) ?_
  intro W base args ds gs before hval0 hW _ hwt0 hL _
  have hval : ∀ (j : Nat) t v, Tryz.f4.params[j]? = some t → args[j]? = some v → Value.okWide Tryz.prog W .any base t v := hval0
  have hW' := hW
  obtain ⟨p, q, hA0, hV, rfl, _, _⟩ := hW
  have hA : DataW.TrodAll enc Tryz.prog W 0 (fun _ => true) true Tryz.f4.params.toList args.toList ds p := hA0
  have hwt : (DataW.weightsEach Tryz.prog (Tryz.f4.params.toList ++ Rows.textPrintsSpec.plain.varTypes Tryz.prog) (ds ++ gs)).all (· ≤ reachBytes) = true := hwt0
  rw [Tryz.params4] at hA hval
  obtain ⟨v0, d0, rfl, rfl, h0⟩ := trodAll_one hA
  obtain ⟨rfl, rfl⟩ := trodVars_none hV
  obtain ⟨l0, hv0⟩ := open_val (base := 0) (sp := fun _ => true) (held := true) (hval 0 _ v0 rfl rfl) h0
  refine (textPrints_any v0 l0 W hv0 (tv_of_laid hL)).mono fun e W' ⟨he, hb⟩ => ?_
  subst he
  exact ⟨_, rfl, law_post (tb := 4) laidOut hW' rfl Tryz.underlying4 (by kernel_rfl) rfl (by
    rw [Tryz.params4]
    intro t ht
    have hall : ([24].all fun t => Tryz.prog.readableRec t && decide (t < Tryz.prog.types.size)) = true := by kernel_rfl
    obtain ⟨h1, h2⟩ := Bool.and_eq_true_iff.1 (List.all_eq_true.1 hall t ht)
    exact ⟨h1, of_decide_eq_true h2⟩) hb⟩

theorem textPrints_holds : Rows.TextPrintsSaid :=
  OpenClaim.holds_of_wide 4 Tryz.f4 rfl rfl rfl rfl rfl rfl rfl ⟨rfl, rfl, rfl, rfl, rfl⟩ rfl rfl rfl rfl rfl (by kernel_rfl) Tryz.func4 (by kernel_rfl)
    (of_decide_eq_true (by kernel_rfl)) (by unfold Func.isWrapper; first | (rw [if_pos (by decide +kernel)]; kernel_rfl) | (rw [if_neg (by decide +kernel)]; exact ⟨rfl, rfl⟩))
    (fun os started H enc _ => textPrints_lifted os started H enc)

theorem textPrints_card : Rows.TextPrintsCardSaid :=
  Claim7.holds_tied_plain_at .later [] Rows.textPrintsCard.laidKinds true Rows.textPrintsCard.stood.harness Rows.textPrintsCard.stood.looks
    textPrints_holds (fun _ h => by cases h) (by kernel_rfl) (fun _ h => by cases h) textPrints_row_tie rfl ⟨rfl, rfl⟩ (by kernel_rfl) rfl
    (fun f fn hf hfn => by
      obtain rfl : f = 4 := Option.some.inj ((show Tryz.prog.funcNamed "loupe/loupelaw04.TextPrints" = some 4 by kernel_rfl).symm.trans hf) |>.symm
      obtain rfl : fn = Tryz.f4 := (Option.some.inj (Tryz.func4.symm.trans hfn)).symm
      exact ⟨by kernel_rfl, fun j t ht => by
        rw [Tryz.params4] at ht
        have hm : t ∈ [24] := by simpa using Array.mem_of_getElem? ht
        have hall : ([24].all fun u => !Tryz.prog.wantsStandIn u) = true := by kernel_rfl
        exact (show Tryz.prog.wantsStandIn t = false by simpa using List.all_eq_true.1 hall t hm)⟩)
    (by kernel_rfl)
#print axioms textPrints_card
end Go.Proofs.YtafbojiojeemoaaGreatDoor
