/-
  Joined: RefW7, RefW8, TxX, TcC, TextCutCard.
-/
import Derived.Test.YtafbojiojeemoaaGreatDoorTextCutJ7
import Derived.Test.YtafbojiojeemoaaGreatDoorTextCutJ1
import Derived.Test.YtafbojiojeemoaaGreatDoorRefW6
import Derived.Test.YtafbojiojeemoaaGreatDoorTextCutJ13
import Derived.Test.YtafbojiojeemoaaGreatDoorTextCutJ15
import Derived.Test.YtafbojiojeemoaaGreatDoorTextCutJ16
import Derived.Test.YtafbojiojeemoaaGreatDoorTextCutJ11

/-
  What the document's own answers are: own, Parts, Names, Depth.
-/
namespace Go.Proofs.YtafbojiojeemoaaGreatDoor
open Go.RowKit Np Rw Vp

set_option maxRecDepth 100000 in
set_option maxHeartbeats 4000000 in
theorem refOwn_any (v : Value) (l : List Nd) (a b : Nat) (n : Nd) (rest : List Nd) (w : World) (hv : Nds w v l) (hl : l.length ≤ 65536) (hab : a < b) (hbl : b ≤ l.length) (hs : (l.drop a).take (b - a) = n :: rest) :
    Calls Tryz.prog 109 #[v, .int .i64 a, .int .i64 b] w (OwnsN w (noName n :: rest)) := by
  obtain ⟨g, o, c, rfl, hc, hcm, hg, -⟩ := hv.opened (by omega)
  have HPC : Hid (Nds w (.slice (some ⟨g, o + a * 6, none⟩) (b - a) (c - a)) (n :: rest)) := Lib.hid (by
    have := hv.piece a (b - a) (by omega)
    rwa [hs] at this)
  have HLN : Hid ((n :: rest).length = b - a) := Lib.hid (by rw [← hs]; simp; omega)
  clear hs hv
  generalize hn : l.length = N at *
  have hac : a ≤ c := by omega
  have hbc : b ≤ c := by omega
  have hane : ¬ a = c := by omega
  clear hn
  generalize hr : n :: rest = r at HPC HLN
  have HR := Lib.hid hr
  clear hr
  go_enter Tryz.func109, Tryz.ntmps109
  have HO0 : Hid (OwnN w.heap.size (w.alloc (.cells #[] 35)) (.slice (some ⟨w.heap.size, 0, none⟩) 0 0) []) := Lib.hid (by
    have := Own.lit (base := w.heap.size) (E := 35) ndc_len w #[] [] (Nat.le_refl _) (by simp) rfl
    simpa using this)
  go_wp2_with (at_builtin; refine wpList_append_row (base := w.heap.size) elNode rfl _ _ rfl rfl HO0.out rfl (HPC.out.below ((Below.refl _ _).alloc (Nat.le_refl _) _)) ?_ ?_ ?_ ?_)
  · have := HLN.out; unfold maxLen; simp only [List.length_nil]; omega
  · have := HLN.out; simp only [List.length_nil]; omega
  · simp
  · intro A3 c3 w3 hown3 hg3 hwh
    clear hwh
    have HO3 : Hid (OwnN w.heap.size w3 (.slice A3 r.length c3) r) := Lib.hid hown3
    have HB3 : Hid (Below w.heap.size w w3) := Lib.hid (((Below.refl w.heap.size w).alloc (Nat.le_refl _) (.cells #[] 35)).trans (HO0.out.kept hg3 (by simp)))
    clear hown3 hg3
    obtain ⟨g', rfl, hc3, HG⟩ : ∃ g', A3 = some ⟨g', 0, none⟩ ∧ b - a ≤ c3 ∧ Hid (w.heap.size ≤ g' ∧ g' < w3.heap.size) := by
      have h := HO3.out
      obtain ⟨g', cap, hv, h1, h2⟩ := h.opened (by have := HLN.out; omega)
      injection hv with e1 _ e3
      have := h.cap.2.1
      exact ⟨g', e1, by have := HLN.out; omega, Lib.hid ⟨h1, h2⟩⟩
    have hk0 : r[0]? = some n := by rw [← HR.out]; rfl
    have x0 := Own.cell ndc_len (j := 0) HO3.out hk0 rfl
    have x1 := Own.cell ndc_len (j := 1) HO3.out hk0 rfl
    have x2 := Own.cell ndc_len (j := 2) HO3.out hk0 rfl
    have x3 := Own.cell ndc_len (j := 3) HO3.out hk0 rfl
    have x4 := Own.cell ndc_len (j := 4) HO3.out hk0 rfl
    have x5 := Own.cell ndc_len (j := 5) HO3.out hk0 rfl
    simp only [Nat.zero_mul, Nat.zero_add] at x0 x1 x2 x3 x4 x5
    have HK0 := Lib.hid hk0
    clear hk0
    rw [HLN.out] at HO3 ⊢
    have hba : 0 < b - a := by omega
    have HTH : Hid (∀ ob : Obj, (w3.alloc ob).there g' 0 6) := Lib.hid (fun ob => by
      have h : OwnN w.heap.size (w3.alloc ob) (.slice (some ⟨g', 0, none⟩) r.length c3) r := by rw [HLN.out]; exact HO3.out.alloc ob
      have := Own.there ndc_len h HK0.out
      simpa using this)
    have HPU : Hid (∀ ob : Obj, OwnN w.heap.size ((w3.alloc ob).setCells g' 0 (ndc (noName n))) (.slice (some ⟨g', 0, none⟩) (b - a) c3) (noName n :: rest)) := Lib.hid (fun ob => by
      have h : OwnN w.heap.size (w3.alloc ob) (.slice (some ⟨g', 0, none⟩) r.length c3) r := by rw [HLN.out]; exact HO3.out.alloc ob
      have h2 := Own.puts (y := noName n) ndc_len h HK0.out
      rw [HLN.out] at h2
      rw [← HR.out] at h2
      simpa using h2)
    go_wp2_with (refine wpList_store_node rfl _ _ rfl g' 0 (noName n) rfl rfl (HTH.out _) ?_)
    go_ret
    exact ⟨_, rfl, HPU.out _, Below.setCells HG.out.1 _ _ (HB3.out.alloc HB3.out.size _)⟩

theorem Elems.aside {base : Nat} {W W' : World} {v : Value} {xs zs : List (Option Addr × Nat × Nat)} {L : List (List Nd)} (h : Elems base W zs L) (hv : Own slc 1 24 base W v xs) (hg : W.grownBy W' v.ownBlock) : Elems base W' zs L :=
  ⟨h.1, fun k z l hz hl => Own.aside (h.2 k z l hz hl) hv (by decide) hg⟩

/-- What is handed back is one's own, so that more can be appended to it. -/
def OwnsV (w : World) (L : List (List Nd)) (e : Ending) (w' : World) : Prop := ∃ v' zs, e = .returned v' ∧ Own slc 1 24 w.heap.size w' v' zs ∧ Elems w.heap.size w' zs L ∧ Below w.heap.size w w'
def OwnsS (w : World) (L : List (List UInt8)) (e : Ending) (w' : World) : Prop := ∃ v', e = .returned v' ∧ Own stc 1 9 w.heap.size w' v' L ∧ Below w.heap.size w w'

set_option maxRecDepth 100000 in
set_option maxHeartbeats 4000000 in
theorem refParts_own (v : Value) (t : Tr Nd) (w : World) (hv : Nds w v (flat t)) (hl : (flat t).length ≤ 65536) (ht : Val t) :
    Calls Tryz.prog 72 #[v] w (OwnsV w (t.ks.map fun k => flat (nmd [] k))) := by
  have hvo := hv
  obtain ⟨g, o, c, rfl, hc, hcm, hg, hx⟩ := hvo.opened (flat_pos t)
  have hmany : t.nd.many = t.ks.length := (okT_eq.1 ht.ok).1
  have a1 : w.cell? ⟨g, o + 1, none⟩ = some (.int .i64 (t.ks.length : Nat)) := by
    have := (hx 0 t.nd (by rw [flat_eq]; rfl)).nd.c1
    rw [hmany] at this
    simpa using this
  have HA1 := Lib.hid a1
  have HV := Lib.hid hv
  have HKS := Lib.hid (okT_eq.1 ht.ok).2
  have hkl : t.ks.length ≤ 65536 := by
    have h1 := flats_len t.ks
    rw [flat_eq] at hl
    simp at hl
    omega
  have hpos := flat_pos t
  have HDR : Hid (∀ pre post, t.ks = pre ++ post → (flat t).drop (1 + (flats pre).length) = flats post) := Lib.hid (fun pre post h => by
    rw [flat_eq, h, flats_append, Nat.add_comm, List.drop_succ_cons, List.drop_left])
  clear hx hv hvo hmany a1
  have HLL := Lib.hid hl
  generalize hn : (flat t).length = n at *
  have HN := Lib.hid hn
  clear hn
  generalize hq : t.ks.length = q at *
  have HQ := Lib.hid hq
  clear hq
  go_enter Tryz.func72, Tryz.ntmps72
  have HO0 : Hid (Own slc 1 24 w.heap.size (w.alloc (.cells #[] 24)) (.slice (some ⟨w.heap.size, 0, none⟩) 0 0) []) := Lib.hid (by
    have := Own.lit (base := w.heap.size) (E := 24) slc_len w #[] [] (Nat.le_refl _) (by simp) rfl
    simpa using this)
  go_wp2_with fail
  go_loopw [3, 4, 5] (fun ov iv kv wr => ∃ (pre post : List (Tr Nd)) (zs : List (Option Addr × Nat × Nat)), t.ks = pre ++ post ∧ kv = .int .i64 pre.length ∧ iv = .int .i64 (1 + (flats pre).length : Nat) ∧ Own slc 1 24 w.heap.size wr ov zs ∧ Elems w.heap.size wr zs (pre.map fun k => flat (nmd [] k)) ∧ Below w.heap.size w wr) (fun _ _ kv _ => q - (intOf kv).toNat)
  case atStart => exact ⟨[], t.ks, [], rfl, rfl, rfl, HO0.out, ⟨rfl, fun k z l h => by simp at h⟩, (Below.refl _ _).alloc (Nat.le_refl _) _⟩
  case round =>
    obtain ⟨pre, post, zs, hpp, rfl, rfl, hown, hels, hb⟩ := hrel
    have a2 := (hb.cell (p := ⟨g, o + 1, none⟩) hg).trans HA1.out
    have HO := Lib.hid hown
    have HE := Lib.hid hels
    have HB := Lib.hid hb
    have HP := Lib.hid hpp
    have hlen : pre.length + post.length = q := by rw [← HQ.out, hpp]; simp
    clear hown hels hb hpp
    cases post with
    | nil =>
      simp only [List.length_nil, Nat.add_zero] at hlen
      have HF : Hid (pre = t.ks) := Lib.hid (by rw [HP.out]; simp)
      have hlt : ¬ (pre.length : Int) < q := by omega
      have HLN := Lib.hid hlen
      clear hlen
      go_wp2_with fail
      go_ret
      exact ⟨_, _, rfl, HO.out, by have := HE.out; rwa [HF.out] at this, HB.out⟩
    | cons u rest =>
      simp only [List.length_cons] at hlen
      have hdr := HDR.out pre (u :: rest) HP.out
      rw [flats_cons] at hdr
      have hoku : okT many u := by have := HKS.out; rw [HP.out, okTs_append, okTs_cons] at this; exact this.2.1
      have hnx := nxt_at hdr hoku
      have hpl := part_lt hdr
      have hup := flat_pos u
      have hlt : (pre.length : Int) < q := by omega
      rw [HN.out] at hpl
      generalize hi : 1 + (flats pre).length = i at *
      generalize hm : (flat u).length = m at *
      have HNX := Lib.hid hnx
      have HDRU : Hid (((flat t).drop i).take (i + m - i) = u.nd :: flats u.ks) := Lib.hid (by
        rw [hdr, show i + m - i = m by omega, ← hm, List.take_left, ← flat_eq])
      have HIX : Hid (1 + (flats (pre ++ [u])).length = i + m) := Lib.hid (by rw [flats_append, flats_cons]; simp; omega)
      have HPL := Lib.hid hlen
      have HUM := Lib.hid hm
      clear hdr hoku hnx hi hm hlen
      have hib : i ≤ n := by omega
      have hOW := refOwn_any (.slice (some ⟨g, o, none⟩) n c) (flat t) i (i + m) u.nd (flats u.ks) wr (HV.out.below HB.out) (by rw [HN.out]; exact hl) (by omega) (by rw [HN.out]; exact hpl) HDRU.out
      rw [Int.natCast_add] at hOW
      have HOW := Lib.hid hOW
      clear hOW
      go_wp2_with (go_at_call 65; refine (refNext_any _ (flat t) i _ (HV.out.below HB.out) (by rw [HN.out]; exact hl) (by rw [HN.out]; exact hib)).mono ?_; rintro e w' ⟨rfl, rfl⟩; rw [HNX.out])
      refine HOW.out.mono ?_
      rintro e w1 ⟨v1, rfl, ho1, hb1⟩
      obtain ⟨A1, c1, rfl, -⟩ := ho1.form
      have HZ : Hid (OwnN w.heap.size w1 (.slice A1 (noName u.nd :: flats u.ks).length c1) (flat (nmd [] u))) := Lib.hid (by rw [nmd, flat_mk]; exact ho1.mono HB.out.size)
      have HO1 := Lib.hid (HO.out.below hb1)
      have HE1 := Lib.hid (HE.out.below hb1)
      have HB1 := Lib.hid (Below.after HB.out hb1)
      clear ho1 hb1 a2
      generalize (noName u.nd :: flats u.ks).length = m2 at HZ ⊢
      have HZL : Hid (zs.length + 1 ≤ 65537) := Lib.hid (by have := HE1.out.1; rw [List.length_map] at this; omega)
      go_wp2_with (at_builtin; refine wpList_append_row (base := w.heap.size) elVal rfl _ _ rfl rfl (HO1.out.alloc _) rfl (row_one slc_len w1 _ rfl 24 #[.slice A1 m2 c1] (A1, m2, c1) rfl) ?_ ?_ ?_ ?_)
      · have := HZL.out; unfold maxLen; simp only [List.length_singleton]; omega
      · have := HZL.out; simp only [List.length_singleton]; omega
      · have := HB1.out.size; simp; omega
      · intro A' c' w2 hown2 hg2 hwh
        clear hwh
        have HO2 : Hid (Own slc 1 24 w.heap.size w2 (.slice A' (zs.length + 1) c') (zs ++ [(A1, m2, c1)])) := Lib.hid hown2
        have HE2 : Hid (Elems w.heap.size w2 (zs ++ [(A1, m2, c1)]) ((pre ++ [u]).map fun k => flat (nmd [] k))) := Lib.hid (by
          have h1 : Elems w.heap.size w2 zs (pre.map fun k => flat (nmd [] k)) := (HE1.out.below ((Below.refl _ _).alloc (Nat.le_refl _) _)).aside (HO1.out.alloc _) hg2
          have h2 : OwnN w.heap.size w2 (.slice A1 m2 c1) (flat (nmd [] u)) := Own.aside (HZ.out.alloc _) (HO1.out.alloc _) (by decide) hg2
          rw [List.map_append]
          exact h1.snoc h2)
        have HB2 : Hid (Below w.heap.size w w2) := Lib.hid ((HB1.out.alloc HB1.out.size _).trans ((HO1.out.alloc _).kept hg2 (by have := HB1.out.size; simp; omega)))
        clear hown2 hg2
        generalize zs.length + 1 = zl at HO2 ⊢
        go_wp2_with fail
        go_roundw
        case rel => exact ⟨pre ++ [u], rest, zs ++ [(A1, m2, c1)], by rw [HP.out]; simp, by simp, by rw [HIX.out]; go_num, HO2.out, HE2.out, HB2.out⟩
        case measure => simp [intOf]; omega

theorem refParts_any (v : Value) (t : Tr Nd) (w : World) (hv : Nds w v (flat t)) (hl : (flat t).length ≤ 65536) (ht : Val t) :
    Calls Tryz.prog 72 #[v] w (GivesV w (t.ks.map fun k => flat (nmd [] k))) :=
  (refParts_own v t w hv hl ht).mono fun _ _ ⟨v', _, h1, h2, h3, h4⟩ => ⟨v', h1, h3.vls (h2.row slc_len), h4⟩

set_option maxRecDepth 100000 in
set_option maxHeartbeats 4000000 in
theorem refNames_own (v : Value) (t : Tr Nd) (w : World) (hv : Nds w v (flat t)) (hl : (flat t).length ≤ 65536) (ht : Val t) :
    Calls Tryz.prog 73 #[v] w (OwnsS w (namesT t)) := by
  have hvo := hv
  obtain ⟨g, o, c, rfl, hc, hcm, hg, hx⟩ := hvo.opened (flat_pos t)
  have hmany : t.nd.many = t.ks.length := (okT_eq.1 ht.ok).1
  have a1 : w.cell? ⟨g, o + 1, none⟩ = some (.int .i64 (t.ks.length : Nat)) := by
    have := (hx 0 t.nd (by rw [flat_eq]; rfl)).nd.c1
    rw [hmany] at this
    simpa using this
  have a0 : w.cell? ⟨g, o, none⟩ = some (.int .i64 t.nd.kind) := by
    have := (hx 0 t.nd (by rw [flat_eq]; rfl)).nd.c0
    simpa using this
  have HA1 := Lib.hid a1
  have HV := Lib.hid hv
  have HXX := Lib.hid hx
  have HKS := Lib.hid (okT_eq.1 ht.ok).2
  have hkl : t.ks.length ≤ 65536 := by
    have h1 := flats_len t.ks
    rw [flat_eq] at hl
    simp at hl
    omega
  have hpos := flat_pos t
  have HDR : Hid (∀ pre post, t.ks = pre ++ post → (flat t).drop (1 + (flats pre).length) = flats post) := Lib.hid (fun pre post h => by
    rw [flat_eq, h, flats_append, Nat.add_comm, List.drop_succ_cons, List.drop_left])
  clear hx hv hvo hmany a1
  generalize hn : (flat t).length = n at *
  have HN := Lib.hid hn
  clear hn
  generalize hq : t.ks.length = q at *
  have HQ := Lib.hid hq
  clear hq
  have HO0 : Hid (Own stc 1 9 w.heap.size (w.alloc (.cells #[] 9)) (.slice (some ⟨w.heap.size, 0, none⟩) 0 0) []) := Lib.hid (by
    have := Own.lit (base := w.heap.size) (E := 9) stc_len w #[] [] (Nat.le_refl _) (by simp) rfl
    simpa using this)
  by_cases hk : t.nd.kind = 6
  · have HNT : Hid (namesT t = t.ks.map fun k => k.nd.name) := Lib.hid (by rw [namesT, if_pos hk])
    rw [hk] at a0
    have HA0 := Lib.hid a0
    clear a0 hk
    go_enter Tryz.func73, Tryz.ntmps73
    go_wp2_with fail
    go_loopw [3, 4, 5] (fun ov iv kv wr => ∃ (pre post : List (Tr Nd)), t.ks = pre ++ post ∧ kv = .int .i64 pre.length ∧ iv = .int .i64 (1 + (flats pre).length : Nat) ∧ Own stc 1 9 w.heap.size wr ov (pre.map fun k => k.nd.name) ∧ Below w.heap.size w wr) (fun _ _ kv _ => q - (intOf kv).toNat)
    case atStart => exact ⟨[], t.ks, rfl, rfl, rfl, HO0.out, (Below.refl _ _).alloc (Nat.le_refl _) _⟩
    case round =>
      obtain ⟨pre, post, hpp, rfl, rfl, hown, hb⟩ := hrel
      have a2 := (hb.cell (p := ⟨g, o + 1, none⟩) hg).trans HA1.out
      have a3 := (hb.cell (p := ⟨g, o, none⟩) hg).trans HA0.out
      have HO := Lib.hid hown
      have HB := Lib.hid hb
      have HP := Lib.hid hpp
      have hlen : pre.length + post.length = q := by rw [← HQ.out, hpp]; simp
      clear hown hpp
      cases post with
      | nil =>
        simp only [List.length_nil, Nat.add_zero] at hlen
        have HF : Hid (pre = t.ks) := Lib.hid (by rw [HP.out]; simp)
        have hlt : ¬ (pre.length : Int) < q := by omega
        clear hlen hb
        go_wp2_with fail
        go_ret
        exact ⟨_, rfl, by rw [HNT.out, ← HF.out]; exact HO.out, HB.out⟩
      | cons u rest =>
        simp only [List.length_cons] at hlen
        have hdr := HDR.out pre (u :: rest) HP.out
        rw [flats_cons] at hdr
        have hoku : okT many u := by have := HKS.out; rw [HP.out, okTs_append, okTs_cons] at this; exact this.2.1
        have hnx := nxt_at hdr hoku
        have hpl := part_lt hdr
        have hup := flat_pos u
        have hlt : (pre.length : Int) < q := by omega
        have hhd := head_at hdr
        rw [HN.out] at hpl
        generalize hi : 1 + (flats pre).length = i at *
        have b2 := (hb.cell (p := ⟨g, o + i * 6 + 2, none⟩) hg).trans (HXX.out i _ hhd).nd.c2
        generalize hm : (flat u).length = m at *
        have HNX := Lib.hid hnx
        have HIX : Hid (1 + (flats (pre ++ [u])).length = i + m) := Lib.hid (by rw [flats_append, flats_cons]; simp; omega)
        have HPL : Hid (pre.length + 1 ≤ 65537) := Lib.hid (by omega)
        have hii : (i : Int) < n := by omega
        have hiin : i < n := by omega
        generalize hnm : u.nd.name = nm at b2
        have HNM := Lib.hid hnm
        have hprel : (pre.map fun k => k.nd.name).length = pre.length := by simp
        generalize hpn : (pre.map fun k => k.nd.name) = pn at HO hprel
        have HPN := Lib.hid hpn
        have HPNL := Lib.hid hprel
        have hlq := hlen
        clear hdr hoku hnx hi hm hlen hhd hnm hpn hprel hb
        have HLQ := Lib.hid hlq
        clear hlq
        go_wp2_with (at_builtin; refine wpList_append_row (base := w.heap.size) elText rfl _ _ rfl rfl (HO.out.alloc _) rfl (row_one stc_len wr _ rfl 9 #[.string ⟨nm.toArray⟩] nm rfl) ?_ ?_ ?_ ?_)
        · have := HPL.out; have := HPNL.out; unfold maxLen; simp only [List.length_singleton]; omega
        · have := HPL.out; have := HPNL.out; simp only [List.length_singleton]; omega
        · have := HB.out.size; simp; omega
        · intro A' c' w2 hown2 hg2 hwh
          clear hwh
          have HO2 : Hid (Own stc 1 9 w.heap.size w2 (.slice A' (pn.length + 1) c') (pn ++ [nm])) := Lib.hid hown2
          have HB2 : Hid (Below w.heap.size w w2) := Lib.hid ((HB.out.alloc HB.out.size _).trans ((HO.out.alloc _).kept hg2 (by have := HB.out.size; simp; omega)))
          clear hown2 hg2
          generalize pn.length + 1 = zl at HO2 ⊢
          have hib : i ≤ n := by omega
          clear a2 a3 b2
          go_wp2_with (go_at_call 65; refine (refNext_any _ (flat t) i _ (HV.out.below HB2.out) (by rw [HN.out]; exact hl) (by rw [HN.out]; exact hib)).mono ?_; rintro e w' ⟨rfl, rfl⟩; rw [HNX.out])
          go_roundw
          case rel => exact ⟨pre ++ [u], rest, by rw [HP.out]; simp, by simp, by rw [HIX.out]; go_num, by rw [List.map_append, HPN.out]; have := HO2.out; rw [← HNM.out] at this; exact this, HB2.out⟩
          case measure => have := HLQ.out; simp [intOf]; omega
  · have HNT : Hid (namesT t = []) := Lib.hid (by rw [namesT, if_neg hk])
    have e6 : (t.nd.kind == 6) = false := by simp [hk]
    have a1 := HA1.out
    clear hk
    go_enter Tryz.func73, Tryz.ntmps73
    go_wp2_with fail
    go_loopw [3, 4, 5] (fun ov iv kv wr => kv = .int .i64 0 ∧ ov = .slice (some ⟨w.heap.size, 0, none⟩) 0 0 ∧ wr = w.alloc (.cells #[] 9)) (fun _ _ _ _ => 0)
    case atStart => exact ⟨rfl, rfl, rfl⟩
    case round =>
      obtain ⟨rfl, rfl, rfl⟩ := hrel
      by_cases hq0 : 0 < q
      · have hq1 : (0 : Int) < q := by omega
        go_wp2_with fail
        go_ret
        exact ⟨_, rfl, by rw [HNT.out]; exact HO0.out, (Below.refl _ _).alloc (Nat.le_refl _) _⟩
      · have hq1 : ¬ (0 : Int) < q := by omega
        go_wp2_with fail
        go_ret
        exact ⟨_, rfl, by rw [HNT.out]; exact HO0.out, (Below.refl _ _).alloc (Nat.le_refl _) _⟩
theorem refNames_any (v : Value) (t : Tr Nd) (w : World) (hv : Nds w v (flat t)) (hl : (flat t).length ≤ 65536) (ht : Val t) :
    Calls Tryz.prog 73 #[v] w (GivesS w (namesT t)) :=
  (refNames_own v t w hv hl ht).mono fun _ _ ⟨v', h1, h2, h4⟩ => ⟨v', h1, h2.row stc_len, h4⟩
end Go.Proofs.YtafbojiojeemoaaGreatDoor

/-
  What the document's own answer Depth is.
-/
namespace Go.Proofs.YtafbojiojeemoaaGreatDoor
open Go.RowKit Np Rw Vp

theorem depths_snoc : ∀ (ts : List (Tr Nd)) (u : Tr Nd), depths (ts ++ [u]) = max (depths ts) (depth u)
  | [], u => by simp
  | t :: ts, u => by rw [List.cons_append, depths_cons, depths_snoc ts u, depths_cons]; omega

mutual
theorem depth_le : ∀ t : Tr Nd, depth t ≤ (flat t).length
  | .mk n ks => by
    have := depths_le2 ks
    rw [depth_mk, flat_mk, List.length_cons]
    split <;> omega
theorem depths_le2 : ∀ ts : List (Tr Nd), depths ts ≤ (flats ts).length
  | [] => by simp
  | t :: ts => by
    have h1 := depth_le t
    have h2 := depths_le2 ts
    rw [depths_cons, flats_cons, List.length_append]
    omega
end

end Go.Proofs.YtafbojiojeemoaaGreatDoor

/-
  The walk of TextBack: it answers true.
-/
namespace Go.Proofs.YtafbojiojeemoaaGreatDoor
open Go.RowKit Np Rw Vp Up Qp Tp

theorem run_plain : ∀ (l : List Nd) (st : List Hd), Vp.run st l = true → ∀ x ∈ l, plainN x = true
  | [], _, _, x, hx => by cases hx
  | n :: l, [], h, x, hx => by simp [Vp.run] at h
  | n :: l, h :: st, hr, x, hx => by
    rw [run_cons, Bool.and_eq_true, Bool.and_eq_true] at hr
    rcases List.mem_cons.1 hx with rfl | hx
    · exact hr.1.2
    · exact run_plain l _ hr.2 x hx
theorem val_plain {t : Tr Nd} (h : Val t) : ∀ x ∈ flat t, plainN x = true := run_plain _ _ (rightL_val h)
theorem fit_plain {n : Nd} (hp : plainN n = true) (h1 : n.name.length ≤ 1000000) (h2 : n.s.length ≤ 1000000) : FitN n := by
  unfold plainN at hp
  split at hp
  · rename_i h
    simp at hp
    exact ⟨by omega, by omega, h2, h1, by omega, by omega⟩
  · split at hp
    · rename_i h
      obtain ⟨b1, b2, b3⟩ := right_bounds hp
      simp only at b2 b3
      exact ⟨by omega, by omega, h2, h1, by omega, by omega⟩
    · split at hp
      · simp at hp
        exact ⟨by omega, by omega, h2, h1, by omega, by omega⟩
      · split at hp
        · simp at hp
          exact ⟨by omega, by omega, h2, h1, by omega, by omega⟩
        · cases hp
theorem fitT_of {t : Tr Nd} (hv : Val t) (hs : ∀ x ∈ flat t, x.name.length ≤ 1000000 ∧ x.s.length ≤ 1000000) (hl : (flat t).length ≤ 1000) : FitT t :=
  ⟨hv.ok, hv.rt, fun x hx => fit_plain (val_plain hv x hx) (hs x hx).1 (hs x hx).2, hl⟩
theorem wS_small : ∀ {l : List Nd}, (∀ x ∈ l, x.name.length ≤ 200 ∧ x.s.length ≤ 200) → wS l ≤ 2400 * l.length
  | [], _ => by simp [wS]
  | x :: l, h => by
    have h1 := wS_small fun y hy => h y (List.mem_cons_of_mem _ hy)
    have h2 := h x (by simp)
    have h3 := (wrs_len x.name).2
    have h4 := (wrs_len x.s).2
    rw [wS_cons, List.length_cons, wN]
    split <;> omega
theorem wN_mem : ∀ {l : List Nd} {x : Nd}, x ∈ l → wN x ≤ wS l
  | y :: l, x, h => by
    rw [wS_cons]
    rcases List.mem_cons.1 h with rfl | h
    · omega
    · have := wN_mem h; omega
theorem sizes_of {l : List Nd} {B : Nat} (hp : ∀ x ∈ l, plainN x = true) (h : wS l ≤ B) (hB : 100 ≤ B) : ∀ x ∈ l, x.name.length ≤ B ∧ x.s.length ≤ B := by
  intro x hx
  have h1 := wN_mem hx
  have h2 := (wrs_len x.name).1
  have h3 := (wrs_len x.s).1
  have h4 := hp x hx
  rw [wN] at h1
  refine ⟨by omega, ?_⟩
  unfold plainN at h4
  split at h4
  · simp at h4; rw [h4.1.1.2]; simp
  · split at h4
    · have := (right_bounds h4).1; simp only at this; omega
    · split at h4
      · rename_i hk; rw [if_pos hk] at h1; omega
      · split at h4
        · simp at h4; rw [h4.1.1.2]; simp
        · cases h4
theorem parse_back (ln : Bool) {t : Tr Nd} (hv : Val t) (hd : depth t ≤ 128) : prsR (prT ln 0 t) = (flat t, 0, 0) := by
  have hb := back ln (prT ln 0 t) _ t 0 128 (Nat.le_refl _) hv.ok hv.rt hd 0 [] [] Blk.nil (by simp) Stop.nil
  have e : nmd [] t = t := by conv => rhs; rw [← nmd_self t, hv.nm]
  simp only [e, List.length_nil, Nat.zero_add] at hb
  exact prs_ok hb (by rw [sk_over (Nat.le_refl _)]; omega)
theorem depth_len (t : Tr Nd) : depth t ≤ (flat t).length := by
  have := depths_le2 t.ks
  rw [depth_eq, flat_eq, List.length_cons]
  split <;> omega

/-- Parse answers this value. -/
def BackE (t : Tr Nd) (w : World) (e : Ending) (w' : World) : Prop :=
  ∃ (A : Option Addr) (m c : Nat), e = .returned (.tuple #[.slice A m c, .int .i64 0, .int .i64 0]) ∧ Hid (Nds w' (.slice A m c) (flat t)) ∧ Hid (Below w.heap.size w w')
theorem back_calls (ln : Bool) {t : Tr Nd} (hv : Val t) (hd : depth t ≤ 128) (hz : (prT ln 0 t).length ≤ 400000) (w : World) (hT : Tv w) :
    Calls Tryz.prog 9 #[.string ⟨(prT ln 0 t).toArray⟩] w (BackE t w) := by
  refine (parse_any ⟨(prT ln 0 t).toArray⟩ w (by rw [mk_size]; exact hz) hT.er hT.tabs hT.wds).mono ?_
  rintro e w' ⟨V, he, hV, hb⟩
  change e = .returned (.tuple #[V, .int .i64 ((prsR (prT ln 0 t)).2.1 : Nat), .int .i64 (prsR (prT ln 0 t)).2.2]) at he
  change OwnN w.heap.size w' V (prsR (prT ln 0 t)).1 at hV
  rw [parse_back ln hv hd] at he hV
  obtain ⟨A, c, rfl, h⟩ := hV.row ndc_len
  exact ⟨A, _, c, he, Lib.hid ⟨A, c, rfl, h⟩, Lib.hid hb⟩
/-- A value's two texts: they are written, and read again as it. -/
structure Texts (t : Tr Nd) (TC TI : ByteArray) : Prop where
  c : ∀ w v, Nds w v (flat t) → Tv w → Calls Tryz.prog 13 #[v] w fun e w' => e = .returned (.string TC) ∧ Below w.heap.size w w'
  i : ∀ w v, Nds w v (flat t) → Tv w → Calls Tryz.prog 15 #[v] w fun e w' => e = .returned (.string TI) ∧ Below w.heap.size w w'
  pc : ∀ w, Tv w → Calls Tryz.prog 9 #[.string TC] w (BackE t w)
  pi : ∀ w, Tv w → Calls Tryz.prog 9 #[.string TI] w (BackE t w)
/-- What is known of a value that has few nodes. -/
structure Known (t : Tr Nd) : Prop where
  val : Val t
  dep : depth t ≤ 60
  len : (flat t).length ≤ 60
  sh : ∀ x ∈ flat t, x.name.length ≤ 200 ∧ x.s.length ≤ 200
  zc : (prT false 0 t).length ≤ 170000
  zi : (prT true 0 t).length ≤ 170000
theorem texts_known {l : List Nd} (h : few 60 l = true) : ∃ t, l = flat t ∧ Known t ∧ Texts t ⟨(prT false 0 t).toArray⟩ ⟨(prT true 0 t).toArray⟩ := by
  unfold few at h
  rw [Bool.and_eq_true, Bool.and_eq_true] at h
  obtain ⟨⟨h1, h2⟩, h3⟩ := h
  have h1 := of_decide_eq_true h1
  obtain ⟨t, hv, rfl⟩ := val_of_rightL h3
  have hs : ∀ x ∈ flat t, x.name.length ≤ 200 ∧ x.s.length ≤ 200 := by
    intro x hx
    have := List.all_eq_true.1 h2 x hx
    simp [shortN] at this
    exact ⟨this.2, this.1⟩
  have hF : FitT t := fitT_of hv (fun x hx => ⟨by have := (hs x hx).1; omega, by have := (hs x hx).2; omega⟩) (by omega)
  have hd := depth_len t
  have hw := wS_small hs
  have hc := compact_len hv.ok hv.rt
  have hi := indent_len hv.ok hv.rt (D := 60) (by omega)
  refine ⟨t, rfl, ⟨hv, by omega, by omega, hs, by omega, by omega⟩, fun w v hv2 hT => compact_any t v w hF hv2 (by omega) hT.pow hT.wds, fun w v hv2 hT => indent_any t v w hF hv2 (by omega) hT.pow hT.wds, fun w hT => back_calls false hv (by omega) (by omega) w hT, fun w hT => back_calls true hv (by omega) (by omega) w hT⟩
theorem texts_of {l : List Nd} (h : few 60 l = true) : ∃ t TC TI, l = flat t ∧ Texts t TC TI := by
  obtain ⟨t, h1, -, h2⟩ := texts_known h
  exact ⟨t, _, _, h1, h2⟩
theorem same_true (va vb : Value) (l : List Nd) (w : World) (ha : Nds w va l) (hb : Nds w vb l) : Calls Tryz.prog 11 #[va, vb] w fun e w' => e = .returned (.bool true) ∧ Below w.heap.size w w' := by
  have := refSame_any va vb l l w ha hb
  rwa [decide_eq_true (rfl : l = l)] at this
end Go.Proofs.YtafbojiojeemoaaGreatDoor

/-
  The walk of TextCut: it answers true.
-/
namespace Go.Proofs.YtafbojiojeemoaaGreatDoor
open Go.RowKit Np Rw Vp Up Qp Tp

/-- Parse answers that there is none, and where. -/
def NoneE (q : Nat) (w : World) (e : Ending) (w' : World) : Prop :=
  ∃ (A : Option Addr) (c : Nat), e = .returned (.tuple #[.slice A 0 c, .int .i64 (q : Int), .int .i64 1]) ∧ Hid (Below w.heap.size w w')
theorem parse_none {L : List UInt8} {q : Nat} (hp : prsR L = ([], q, 1)) (s : ByteArray) (hs : s.data.toList = L) (hz : s.size ≤ 400000) (w : World) (hT : Tv w) :
    Calls Tryz.prog 9 #[.string s] w (NoneE q w) := by
  refine (parse_any s w hz hT.er hT.tabs hT.wds).mono ?_
  rintro e w' ⟨V, he, hV, hb⟩
  rw [hs, hp] at he hV
  obtain ⟨A, c, rfl, -⟩ := hV.form
  exact ⟨A, c, he, Lib.hid hb⟩
theorem kind_cont {t : Tr Nd} (h : Val t) (hk : ¬ t.nd.kind < 5) : t.nd.kind = 5 ∨ t.nd.kind = 6 := by
  have hp : plainN t.nd = true := h.plain
  unfold plainN at hp
  by_cases c0 : t.nd.kind = 0 ∨ t.nd.kind = 1 ∨ t.nd.kind = 2
  · omega
  rw [if_neg c0] at hp
  by_cases c3 : t.nd.kind = 3
  · omega
  rw [if_neg c3] at hp
  by_cases c4 : t.nd.kind = 4
  · omega
  rw [if_neg c4] at hp
  by_cases c5 : t.nd.kind = 5 ∨ t.nd.kind = 6
  · exact c5
  · rw [if_neg c5] at hp; cases hp
theorem cont_len {t : Tr Nd} (hk : t.nd.kind = 5 ∨ t.nd.kind = 6) : 2 ≤ (prT false 0 t).length := by
  obtain ⟨n, ks⟩ := t
  rw [prT_mk]
  rcases hk with h | h
  · have h' : n.kind = 5 := h
    rw [if_pos h']; simp
  · have h' : n.kind = 6 := h
    rw [if_neg (by rw [h']; decide), if_pos h']; simp

set_option maxRecDepth 100000 in
set_option maxHeartbeats 8000000 in
theorem textCut_any (v u : Value) (l p : List Nd) (n : Nat) (w : World) (hn : n < 65536) (hv : Nds w v l) (hu : Nds w u p) (hT : Tv w) :
    Calls Tryz.prog 5 #[v, .int .u16 n, u] w fun e w' => e = .returned (.bool true) ∧ Below w.heap.size w w' := by
  have HT := Lib.hid hT
  have HV := Lib.hid hv
  have HU := Lib.hid hu
  have HFE := Lib.hid (refFew_any v l 60 w hv (by omega))
  have HFU := Lib.hid (fun W (hb : Below w.heap.size w W) => refFew_any u p 60 W (HU.out.below hb) (by omega))
  obtain ⟨A0, N0, c0, rfl⟩ : ∃ (A : Option Addr) (N c : Nat), v = .slice A N c := by obtain ⟨A, c, h, -⟩ := hv; exact ⟨A, _, c, h⟩
  clear hv hu hT
  cases hf : few 60 l with
  | false =>
    rw [hf] at HFE
    go_enter Tryz.func5, Tryz.ntmps5
    go_wp2_with fail
    refine HFE.out.mono ?_
    rintro e w1 ⟨rfl, hb1⟩
    have HB1 := Lib.hid hb1
    have HT1 := Lib.hid (HT.out.below hb1)
    clear hb1
    go_wp2_with fail
    refine (alive_any _ HT1.out).mono ?_
    rintro e w2 ⟨rfl, hb2⟩
    go_wp2_with fail
    go_ret
    exact ⟨rfl, Below.after HB1.out hb2⟩
  | true =>
    rw [hf] at HFE
    cases hg : few 60 p with
    | false =>
      rw [hg] at HFU
      go_enter Tryz.func5, Tryz.ntmps5
      go_wp2_with fail
      refine HFE.out.mono ?_
      rintro e w1 ⟨rfl, hb1⟩
      have HB1 := Lib.hid hb1
      clear hb1
      go_wp2_with fail
      refine (HFU.out _ HB1.out).mono ?_
      rintro e w2 ⟨rfl, hb2⟩
      have HB2 := Lib.hid (Below.after HB1.out hb2)
      clear hb2
      go_wp2_with fail
      refine (alive_any _ (HT.out.below HB2.out)).mono ?_
      rintro e w3 ⟨rfl, hb3⟩
      go_wp2_with fail
      go_ret
      exact ⟨rfl, Below.after HB2.out hb3⟩
    | true =>
      rw [hg] at HFU
      obtain ⟨t, rfl, hK, hX⟩ := texts_known hf
      obtain ⟨x, rfl, hKx, hXx⟩ := texts_known hg
      have HX := Lib.hid hX
      have HXx := Lib.hid hXx
      have HK := Lib.hid hK
      have HKx := Lib.hid hKx
      clear hX hXx hK hKx hf hg
      go_enter Tryz.func5, Tryz.ntmps5
      go_wp2_with fail
      refine HFE.out.mono ?_
      rintro e w1 ⟨rfl, hb1⟩
      have HB1 := Lib.hid hb1
      clear hb1
      go_wp2_with fail
      refine (HFU.out _ HB1.out).mono ?_
      rintro e w2 ⟨rfl, hb2⟩
      have HB2 := Lib.hid (Below.after HB1.out hb2)
      clear hb2 HFE HFU
      have HV2 := Lib.hid (HV.out.below HB2.out)
      obtain ⟨g, o, cc, hvv, -, -, hg, hx⟩ := HV2.out.opened (flat_pos t)
      injection hvv with e1 e2 e3
      subst e1 e2 e3
      obtain ⟨a0, -, -, -, -, -⟩ := (hx 0 t.nd (by rw [flat_eq]; rfl)).nd
      clear hx
      simp only [Nat.zero_mul, Nat.add_zero] at a0
      have hfp := flat_pos t
      have hl60 := HK.out.len
      by_cases hk : t.nd.kind < 5
      · go_wp2_with fail
        refine (alive_any _ (HT.out.below HB2.out)).mono ?_
        rintro e w3 ⟨rfl, hb3⟩
        go_wp2_with fail
        go_ret
        exact ⟨rfl, Below.after HB2.out hb3⟩
      · have hc := kind_cont HK.out.val hk
        have hl2 := cont_len hc
        have hzX := HK.out.zc
        have hzY := HKx.out.zc
        have HC := Lib.hid (fun m hm => cut_parse HK.out.val (by have := HK.out.dep; omega) hc m hm)
        have HM := Lib.hid (more_parse (u := x) HK.out.val (by have := HK.out.dep; omega) HKx.out.val false)
        generalize prT false 0 t = X at *
        generalize prT false 0 x = Y at *
        have hszX : (ByteArray.mk X.toArray).size = X.length := mk_size _
        go_wp2_with fail
        refine (HX.out.c _ _ HV2.out (HT.out.below HB2.out)).mono ?_
        rintro e w3 ⟨rfl, hb3⟩
        have HB3 := Lib.hid (Below.after HB2.out hb3)
        clear hb3 a0
        obtain ⟨m, hmm, hlt⟩ : ∃ m : Nat, (n : Int) % (X.length : Int) = (m : Int) ∧ m < X.length := ⟨n % X.length, rfl, Nat.mod_lt _ (by omega)⟩
        obtain ⟨q, hq, hp⟩ := HC.out m hlt
        have hext : ((ByteArray.mk X.toArray).extract 0 m).data.toList = X.take m := by
          have h := Lib.extract_toList (ByteArray.mk X.toArray) 0 m
          rw [ByteArray.toList_eq, mk_data, List.drop_zero, Nat.sub_zero] at h
          exact h
        have hesz : ((ByteArray.mk X.toArray).extract 0 m).size = m := by
          rw [← size_toList, hext, List.length_take]; omega
        have HN1 := Lib.hid (fun W hT => parse_none hp _ hext (by omega) W hT)
        have hcat : ((ByteArray.mk X.toArray ++ ByteArray.mk #[32]) ++ ByteArray.mk Y.toArray).data.toList = X ++ 32 :: Y := by simp
        have HN2 := Lib.hid (fun W hT => parse_none HM.out _ hcat (by rw [← size_toList, hcat]; simp; omega) W hT)
        generalize hW : (ByteArray.mk X.toArray ++ ByteArray.mk #[32]) ++ ByteArray.mk Y.toArray = ST at *
        generalize hZ : (ByteArray.mk X.toArray).extract 0 m = Z at *
        have hqz : (q : Int) ≤ (Z.size : Int) := by omega
        clear hext hcat hp
        have hXl : X.length ≤ 170000 := hzX
        have hYl : Y.length ≤ 170000 := hzY
        go_wp2_with fail
        refine (HN1.out _ (HT.out.below HB3.out)).mono ?_
        rintro e w4 ⟨A4, c4, rfl, HB4⟩
        have HB5 := Lib.hid (Below.after HB3.out HB4.out)
        go_wp2_with fail
        refine (HXx.out.c _ _ (HU.out.below HB5.out) (HT.out.below HB5.out)).mono ?_
        rintro e w5 ⟨rfl, hb6⟩
        have HB6 := Lib.hid (Below.after HB5.out hb6)
        clear hb6
        go_wp2_with fail
        refine (HN2.out _ (HT.out.below HB6.out)).mono ?_
        rintro e w6 ⟨A6, c6, rfl, HB7⟩
        have HB8 := Lib.hid (Below.after HB6.out HB7.out)
        go_wp2_with fail
        refine (alive_any _ (HT.out.below HB8.out)).mono ?_
        rintro e w7 ⟨rfl, hb9⟩
        have HB9 := Lib.hid (Below.after HB8.out hb9)
        clear hb9
        go_wp2_with fail
        go_ret
        exact ⟨ret_bool (by first | rfl | simp), HB9.out⟩
end Go.Proofs.YtafbojiojeemoaaGreatDoor

/-
  The statement TextCut holds: called with any two values and any number of sixteen bits, whatever lies in memory, it returns true, and each argument reads as it read before. Conditions: the listed variables of the library (two tables of bits, one of powers of ten, two of UTF-8, strconv's two errors) and the program's table of words read as the program's text lays them (the tie is given).
-/
namespace Go.Proofs.YtafbojiojeemoaaGreatDoor
open Go.ChangeShapes Go.WideShapes Go.ChangeAt Go.RowKit Go.ChangeMaps

set_option maxRecDepth 100000 in
theorem textCut_lifted (os : Os) (started : os.Started) (H : Type) (enc : TypeId × Value → H) :
    ReturnsInHanded {} Tryz.checked os 5 .any (fun w args => (Rows.textCutSpec.pre enc Tryz.prog Tryz.f5 [] false w args ∧ laidMetH Tryz.prog seatLaid w) ∧ sizedMet enc Tryz.prog Tryz.f5 (OpenSpec.ofChange Rows.textCutSpec) false w args)
      (Rows.textCutSpec.post enc Tryz.prog Tryz.f5 false true false false) := by
  refine returnsInHanded_of_change_and (C := Tryz.checked) (X := fun w _ => laidMetH Tryz.prog seatLaid w) (fun _ _ _ hh h => h.of_heap hh) ownKn started (by kernel_rfl) Tryz.func5
    (ChangeSpec.witness_shaped (enc := enc) (C := Tryz.checked) (os := os) (X := fun w _ => laidMetH Tryz.prog seatLaid w) false (World.laidAll Tryz.prog os seatLaid)
      #[.slice none 0 0, .int .u16 0, .slice none 0 0] 8 (World.laidAll_os _ _ _)
      (World.shaped_of_ZipB (by kernel_rfl) (by kernel_rfl)) (by kernel_rfl) (by kernel_rfl) (by kernel_rfl) (laid_met os _)) ?_
  intro W base args ds gs before hval0 hW _ hwt0 hL _
  have hval : ∀ (j : Nat) t v, Tryz.f5.params[j]? = some t → args[j]? = some v → Value.okWide Tryz.prog W .any base t v := hval0
  have hW' := hW
  obtain ⟨p, q, hA0, hV, rfl, _, _⟩ := hW
  have hA : DataW.TrodAll enc Tryz.prog W 0 (fun _ => true) true Tryz.f5.params.toList args.toList ds p := hA0
  have hwt : (DataW.weightsEach Tryz.prog (Tryz.f5.params.toList ++ Rows.textCutSpec.plain.varTypes Tryz.prog) (ds ++ gs)).all (· ≤ reachBytes) = true := hwt0
  rw [Tryz.params5] at hA hval
  obtain ⟨v0, v1, v2, d0, d1, d2, p0, p1, p2, rfl, rfl, rfl, h0, h1, h2⟩ := trodAll_three hA
  obtain ⟨rfl, rfl⟩ := trodVars_none hV
  obtain ⟨l0, hv0⟩ := open_val (base := 0) (sp := fun _ => true) (held := true) (hval 0 _ v0 rfl rfl) h0
  obtain ⟨m1, rfl, -, -, w1⟩ := open_int Tryz.underlying33 (hval 1 _ v1 rfl rfl) h1
  obtain ⟨m1a, m1b⟩ := u16_range w1
  obtain ⟨n1, rfl⟩ := Int.eq_ofNat_of_zero_le m1a
  obtain ⟨l2, hv2⟩ := open_val (base := 0) (sp := fun _ => true) (held := true) (hval 2 _ v2 rfl rfl) h2
  refine (textCut_any v0 v2 l0 l2 n1 W (by omega) hv0 hv2 (tv_of_laid hL)).mono fun e W' ⟨he, hb⟩ => ?_
  subst he
  exact ⟨_, rfl, law_post (tb := 4) laidOut hW' rfl Tryz.underlying4 (by kernel_rfl) rfl (by
    rw [Tryz.params5]
    intro t ht
    have hall : ([24, 33, 24].all fun t => Tryz.prog.readableRec t && decide (t < Tryz.prog.types.size)) = true := by kernel_rfl
    obtain ⟨h1, h2⟩ := Bool.and_eq_true_iff.1 (List.all_eq_true.1 hall t ht)
    exact ⟨h1, of_decide_eq_true h2⟩) hb⟩

theorem textCut_holds : Rows.TextCutSaid :=
  OpenClaim.holds_of_wide 5 Tryz.f5 rfl rfl rfl rfl rfl rfl rfl ⟨rfl, rfl, rfl, rfl, rfl⟩ rfl rfl rfl rfl rfl (by kernel_rfl) Tryz.func5 (by kernel_rfl)
    (of_decide_eq_true (by kernel_rfl)) (by unfold Func.isWrapper; first | (rw [if_pos (by decide +kernel)]; kernel_rfl) | (rw [if_neg (by decide +kernel)]; exact ⟨rfl, rfl⟩))
    (fun os started H enc _ => textCut_lifted os started H enc)

theorem textCut_card : Rows.TextCutCardSaid :=
  Claim7.holds_tied_plain_at .later [] Rows.textCutCard.laidKinds true Rows.textCutCard.stood.harness Rows.textCutCard.stood.looks
    textCut_holds (fun _ h => by cases h) (by kernel_rfl) (fun _ h => by cases h) textCut_row_tie rfl ⟨rfl, rfl⟩ (by kernel_rfl) rfl
    (fun f fn hf hfn => by
      obtain rfl : f = 5 := Option.some.inj ((show Tryz.prog.funcNamed "loupe/loupelaw04.TextCut" = some 5 by kernel_rfl).symm.trans hf) |>.symm
      obtain rfl : fn = Tryz.f5 := (Option.some.inj (Tryz.func5.symm.trans hfn)).symm
      exact ⟨by kernel_rfl, fun j t ht => by
        rw [Tryz.params5] at ht
        have hm : t ∈ [24, 33, 24] := by simpa using Array.mem_of_getElem? ht
        have hall : ([24, 33, 24].all fun u => !Tryz.prog.wantsStandIn u) = true := by kernel_rfl
        exact (show Tryz.prog.wantsStandIn t = false by simpa using List.all_eq_true.1 hall t hm)⟩)
    (by kernel_rfl)
#print axioms textCut_card
end Go.Proofs.YtafbojiojeemoaaGreatDoor
