/-
  Joined: BackP, RefW7, AtB2.
-/
import Derived.Test.YtbhgmfddjnkglaaGreatDoorAtomTellsJ2
import Derived.Test.YtbhgmfddjnkglaaGreatDoorAtomTellsJ8
import Derived.Test.YtbhgmfddjnkglaaGreatDoorRefW6
import Derived.Test.YtbhgmfddjnkglaaGreatDoorAtomTellsJ29

/-
  Plain words: a list's parts are what it was made of; an object, made of its names and parts, is it; parts are right, and less deep. No program stands here.
-/
namespace Go.Proofs.YtbhgmfddjnkglaaGreatDoor
namespace Vp
open Go.RowKit Np Rw

theorem setNm_val {t : Tr Nd} (h : Val t) : setNm [] (flat t) = flat t := by rw [← flat_nmd, ← h.nm, nmd_self]
theorem rows_trees : ∀ L : List (List Nd), (∀ l ∈ L, rightL l = true) → ∃ ts : List (Tr Nd), (∀ t ∈ ts, Val t) ∧ L = ts.map flat
  | [], _ => ⟨[], by simp, rfl⟩
  | l :: L, h => by
    obtain ⟨ts, h1, h2⟩ := rows_trees L (fun x hx => h x (by simp [hx]))
    obtain ⟨t, ht, he⟩ := val_of_rightL (h l (by simp))
    exact ⟨t :: ts, by intro x hx; rcases List.mem_cons.1 hx with rfl | hx <;> first | exact ht | exact h1 x hx, by rw [List.map_cons, ← h2, he]⟩
theorem laid_plain : ∀ ts : List (Tr Nd), (∀ t ∈ ts, Val t) → laid ((ts.map flat).map fun l => (([], l) : Pr)) = flats ts
  | [], _ => rfl
  | t :: ts, h => by
    rw [List.map_cons, List.map_cons, laid_cons, laid_plain ts (fun x hx => h x (by simp [hx])), flats_cons]
    rw [setNm_val (h t (by simp))]
theorem list_tree {ts : List (Tr Nd)} (h : ∀ t ∈ ts, Val t) : hdN 5 (ts.map flat).length :: laid ((ts.map flat).map fun l => ([], l)) = flat (arrT ts) := by
  rw [laid_plain ts h, flat_arrT, List.length_map]
theorem nmd_all {ts : List (Tr Nd)} (h : ∀ t ∈ ts, t.nd.name = []) : ts.map (fun k => flat (nmd [] k)) = ts.map flat := by
  apply List.map_congr_left
  intro t ht
  conv => rhs; rw [← nmd_self t, h t ht]
theorem part_val {t k : Tr Nd} (h : Val t) (hk : k ∈ t.ks) : Val (nmd [] k) := Val.clr (h.parts k hk).1 (h.parts k hk).2
theorem depth_nmd (nm : List UInt8) (t : Tr Nd) : depth (nmd nm t) = depth t := by rw [depth_eq, depth_eq t]; rfl
theorem depths_le : ∀ {ts : List (Tr Nd)} {k : Tr Nd}, k ∈ ts → depth k ≤ depths ts
  | t :: ts, k, h => by
    rw [depths_cons]
    rcases List.mem_cons.1 h with rfl | h
    · omega
    · have := depths_le h; omega
theorem Val.cont {t : Tr Nd} (h : Val t) (h0 : t.ks ≠ []) : cont t.nd.kind = true := by
  rcases Classical.em (t.nd.kind = 5) with h5 | h5
  · rw [h5]; rfl
  · rcases Classical.em (t.nd.kind = 6) with h6 | h6
    · rw [h6]; rfl
    · exact absurd (h.leaf h5 h6) h0
theorem part_depth {t k : Tr Nd} (h : Val t) (hk : k ∈ t.ks) : depth (nmd [] k) < depth t := by
  rw [depth_nmd, depth_eq t, if_pos (h.cont (by intro e; rw [e] at hk; cases hk))]
  have := depths_le hk
  omega
theorem laid_named : ∀ ks : List (Tr Nd), laid ((ks.map fun k => k.nd.name).zip (ks.map fun k => flat (nmd [] k))) = flats ks
  | [] => rfl
  | k :: ks => by
    rw [List.map_cons, List.map_cons, List.zip_cons_cons, laid_cons, laid_named ks, flats_cons]
    show setNm k.nd.name (flat (nmd [] k)) ++ _ = _
    rw [← flat_nmd, nmd_nmd, nmd_self]
theorem obj_again {t : Tr Nd} (h : Val t) (hk : t.nd.kind = 6) : objB (t.ks.map fun k => k.nd.name) (t.ks.map fun k => flat (nmd [] k)) = true ∧ objV (t.ks.map fun k => k.nd.name) (t.ks.map fun k => flat (nmd [] k)) = flat t := by
  obtain ⟨h1, h2⟩ := h.named hk
  have hr : (t.ks.map fun k => k.nd.name).Pairwise (· < ·) := List.pairwise_map.2 h1
  have hb : objB (t.ks.map fun k => k.nd.name) (t.ks.map fun k => flat (nmd [] k)) = true := by
    refine objB_iff.2 ⟨by simp, ?_, fun s hs => ?_⟩
    · exact hr.imp (fun {a b} hab (e : a = b) => by subst e; exact List.lt_irrefl a hab)
    · obtain ⟨k, hk', rfl⟩ := List.mem_map.1 hs
      exact h2 k hk'
  refine ⟨hb, ?_⟩
  have hz : rises ((t.ks.map fun k => k.nd.name).zip (t.ks.map fun k => flat (nmd [] k))) := by
    have := List.pairwise_map (f := Prod.fst) (l := (t.ks.map fun k => k.nd.name).zip (t.ks.map fun k => flat (nmd [] k))) (R := (· < ·))
    rw [zip_keys (by simp)] at this
    exact this.1 hr
  rw [objV, if_pos hb, srt_of (List.Perm.refl _) hz, laid_named]
  conv => rhs; rw [h.obj hk, flat_objT]
  rw [List.length_map]
theorem arr_again {t : Tr Nd} (h : Val t) (hk : t.nd.kind = 5) : hdN 5 (t.ks.map fun k => flat (nmd [] k)).length :: laid ((t.ks.map fun k => flat (nmd [] k)).map fun l => ([], l)) = flat t := by
  have hn := h.unnamed hk
  have hv : ∀ k ∈ t.ks, Val k := fun k hk' => ⟨(h.parts k hk').1, (h.parts k hk').2, hn k hk'⟩
  rw [nmd_all hn, list_tree hv, ← h.arr hk]
theorem depth_leaf {t : Tr Nd} (h5 : t.nd.kind ≠ 5) (h6 : t.nd.kind ≠ 6) : depth t = 0 := by
  rw [depth_eq, if_neg]
  simp [cont, h5, h6]
theorem mem_flats : ∀ {ts : List (Tr Nd)} {k : Tr Nd} {n : Nd}, k ∈ ts → n ∈ flat k → n ∈ flats ts
  | t :: ts, k, n, h, hn => by
    rw [flats_cons, List.mem_append]
    rcases List.mem_cons.1 h with rfl | h
    · exact .inl hn
    · exact .inr (mem_flats h hn)
theorem len_flats : ∀ {ts : List (Tr Nd)} {k : Tr Nd}, k ∈ ts → (flat k).length ≤ (flats ts).length
  | t :: ts, k, h => by
    rw [flats_cons, List.length_append]
    rcases List.mem_cons.1 h with rfl | h
    · omega
    · have := len_flats h; omega
theorem sum_flats : ∀ ts : List (Tr Nd), ((ts.map flat).map List.length).sum = (flats ts).length
  | [] => rfl
  | t :: ts => by rw [List.map_cons, List.map_cons, List.sum_cons, sum_flats ts, flats_cons, List.length_append]
end Vp
open Go.RowKit Np Rw in
/-- The names of an object's parts. -/
def namesT (t : Tr Nd) : List (List UInt8) := if t.nd.kind = 6 then t.ks.map (fun k => k.nd.name) else []
end Go.Proofs.YtbhgmfddjnkglaaGreatDoor

/-
  What the document's own answers are: own, Parts, Names, Depth.
-/
namespace Go.Proofs.YtbhgmfddjnkglaaGreatDoor
open Go.RowKit Np Rw Vp

set_option maxRecDepth 100000 in
set_option maxHeartbeats 4000000 in
theorem refOwn_any (v : Value) (l : List Nd) (a b : Nat) (n : Nd) (rest : List Nd) (w : World) (hv : Nds w v l) (hl : l.length ≤ 65536) (hab : a < b) (hbl : b ≤ l.length) (hs : (l.drop a).take (b - a) = n :: rest) :
    Calls Tryz.prog 60 #[v, .int .i64 a, .int .i64 b] w (OwnsN w (noName n :: rest)) := by
  obtain ⟨g, o, c, rfl, hc, hcm, hg, -⟩ := hv.opened (by omega)
  have HPC : Hid (Nds w (.slice (some ⟨g, o + a * 6, none⟩) (b - a) (c - a)) (n :: rest)) := Lib.hid (by
    have := hv.piece a (b - a) (by omega)
    rwa [hs] at this)
  have HLN : Hid ((n :: rest).length = b - a) := Lib.hid (by rw [← hs]; simp; omega)
  clear hs hv
  generalize hn : l.length = N at *
  have hac : a ≤ c := by omega
  have hbc : b ≤ c := by omega
  have hane : ¬ a = c := by omega
  clear hn
  generalize hr : n :: rest = r at HPC HLN
  have HR := Lib.hid hr
  clear hr
  go_enter Tryz.func60, Tryz.ntmps60
  have HO0 : Hid (OwnN w.heap.size (w.alloc (.cells #[] 24)) (.slice (some ⟨w.heap.size, 0, none⟩) 0 0) []) := Lib.hid (by
    have := Own.lit (base := w.heap.size) (E := 24) ndc_len w #[] [] (Nat.le_refl _) (by simp) rfl
    simpa using this)
  go_wp2_with (at_builtin; refine wpList_append_row (base := w.heap.size) elNode rfl _ _ rfl rfl HO0.out rfl (HPC.out.below ((Below.refl _ _).alloc (Nat.le_refl _) _)) ?_ ?_ ?_ ?_)
  · have := HLN.out; unfold maxLen; simp only [List.length_nil]; omega
  · have := HLN.out; simp only [List.length_nil]; omega
  · simp
  · intro A3 c3 w3 hown3 hg3 hwh
    clear hwh
    have HO3 : Hid (OwnN w.heap.size w3 (.slice A3 r.length c3) r) := Lib.hid hown3
    have HB3 : Hid (Below w.heap.size w w3) := Lib.hid (((Below.refl w.heap.size w).alloc (Nat.le_refl _) (.cells #[] 24)).trans (HO0.out.kept hg3 (by simp)))
    clear hown3 hg3
    obtain ⟨g', rfl, hc3, HG⟩ : ∃ g', A3 = some ⟨g', 0, none⟩ ∧ b - a ≤ c3 ∧ Hid (w.heap.size ≤ g' ∧ g' < w3.heap.size) := by
      have h := HO3.out
      obtain ⟨g', cap, hv, h1, h2⟩ := h.opened (by have := HLN.out; omega)
      injection hv with e1 _ e3
      have := h.cap.2.1
      exact ⟨g', e1, by have := HLN.out; omega, Lib.hid ⟨h1, h2⟩⟩
    have hk0 : r[0]? = some n := by rw [← HR.out]; rfl
    have x0 := Own.cell ndc_len (j := 0) HO3.out hk0 rfl
    have x1 := Own.cell ndc_len (j := 1) HO3.out hk0 rfl
    have x2 := Own.cell ndc_len (j := 2) HO3.out hk0 rfl
    have x3 := Own.cell ndc_len (j := 3) HO3.out hk0 rfl
    have x4 := Own.cell ndc_len (j := 4) HO3.out hk0 rfl
    have x5 := Own.cell ndc_len (j := 5) HO3.out hk0 rfl
    simp only [Nat.zero_mul, Nat.zero_add] at x0 x1 x2 x3 x4 x5
    have HK0 := Lib.hid hk0
    clear hk0
    rw [HLN.out] at HO3 ⊢
    have hba : 0 < b - a := by omega
    have HTH : Hid (∀ ob : Obj, (w3.alloc ob).there g' 0 6) := Lib.hid (fun ob => by
      have h : OwnN w.heap.size (w3.alloc ob) (.slice (some ⟨g', 0, none⟩) r.length c3) r := by rw [HLN.out]; exact HO3.out.alloc ob
      have := Own.there ndc_len h HK0.out
      simpa using this)
    have HPU : Hid (∀ ob : Obj, OwnN w.heap.size ((w3.alloc ob).setCells g' 0 (ndc (noName n))) (.slice (some ⟨g', 0, none⟩) (b - a) c3) (noName n :: rest)) := Lib.hid (fun ob => by
      have h : OwnN w.heap.size (w3.alloc ob) (.slice (some ⟨g', 0, none⟩) r.length c3) r := by rw [HLN.out]; exact HO3.out.alloc ob
      have h2 := Own.puts (y := noName n) ndc_len h HK0.out
      rw [HLN.out] at h2
      rw [← HR.out] at h2
      simpa using h2)
    go_wp2_with (refine wpList_store_node rfl _ _ rfl g' 0 (noName n) rfl rfl (HTH.out _) ?_)
    go_ret
    exact ⟨_, rfl, HPU.out _, Below.setCells HG.out.1 _ _ (HB3.out.alloc HB3.out.size _)⟩

theorem Elems.aside {base : Nat} {W W' : World} {v : Value} {xs zs : List (Option Addr × Nat × Nat)} {L : List (List Nd)} (h : Elems base W zs L) (hv : Own slc 1 45 base W v xs) (hg : W.grownBy W' v.ownBlock) : Elems base W' zs L :=
  ⟨h.1, fun k z l hz hl => Own.aside (h.2 k z l hz hl) hv (by decide) hg⟩

/-- What is handed back is one's own, so that more can be appended to it. -/
def OwnsV (w : World) (L : List (List Nd)) (e : Ending) (w' : World) : Prop := ∃ v' zs, e = .returned v' ∧ Own slc 1 45 w.heap.size w' v' zs ∧ Elems w.heap.size w' zs L ∧ Below w.heap.size w w'
def OwnsS (w : World) (L : List (List UInt8)) (e : Ending) (w' : World) : Prop := ∃ v', e = .returned v' ∧ Own stc 1 9 w.heap.size w' v' L ∧ Below w.heap.size w w'

set_option maxRecDepth 100000 in
set_option maxHeartbeats 4000000 in
theorem refParts_own (v : Value) (t : Tr Nd) (w : World) (hv : Nds w v (flat t)) (hl : (flat t).length ≤ 65536) (ht : Val t) :
    Calls Tryz.prog 37 #[v] w (OwnsV w (t.ks.map fun k => flat (nmd [] k))) := by
  have hvo := hv
  obtain ⟨g, o, c, rfl, hc, hcm, hg, hx⟩ := hvo.opened (flat_pos t)
  have hmany : t.nd.many = t.ks.length := (okT_eq.1 ht.ok).1
  have a1 : w.cell? ⟨g, o + 1, none⟩ = some (.int .i64 (t.ks.length : Nat)) := by
    have := (hx 0 t.nd (by rw [flat_eq]; rfl)).nd.c1
    rw [hmany] at this
    simpa using this
  have HA1 := Lib.hid a1
  have HV := Lib.hid hv
  have HKS := Lib.hid (okT_eq.1 ht.ok).2
  have hkl : t.ks.length ≤ 65536 := by
    have h1 := flats_len t.ks
    rw [flat_eq] at hl
    simp at hl
    omega
  have hpos := flat_pos t
  have HDR : Hid (∀ pre post, t.ks = pre ++ post → (flat t).drop (1 + (flats pre).length) = flats post) := Lib.hid (fun pre post h => by
    rw [flat_eq, h, flats_append, Nat.add_comm, List.drop_succ_cons, List.drop_left])
  clear hx hv hvo hmany a1
  have HLL := Lib.hid hl
  generalize hn : (flat t).length = n at *
  have HN := Lib.hid hn
  clear hn
  generalize hq : t.ks.length = q at *
  have HQ := Lib.hid hq
  clear hq
  go_enter Tryz.func37, Tryz.ntmps37
  have HO0 : Hid (Own slc 1 45 w.heap.size (w.alloc (.cells #[] 45)) (.slice (some ⟨w.heap.size, 0, none⟩) 0 0) []) := Lib.hid (by
    have := Own.lit (base := w.heap.size) (E := 45) slc_len w #[] [] (Nat.le_refl _) (by simp) rfl
    simpa using this)
  go_wp2_with fail
  go_loopw [3, 4, 5] (fun ov iv kv wr => ∃ (pre post : List (Tr Nd)) (zs : List (Option Addr × Nat × Nat)), t.ks = pre ++ post ∧ kv = .int .i64 pre.length ∧ iv = .int .i64 (1 + (flats pre).length : Nat) ∧ Own slc 1 45 w.heap.size wr ov zs ∧ Elems w.heap.size wr zs (pre.map fun k => flat (nmd [] k)) ∧ Below w.heap.size w wr) (fun _ _ kv _ => q - (intOf kv).toNat)
  case atStart => exact ⟨[], t.ks, [], rfl, rfl, rfl, HO0.out, ⟨rfl, fun k z l h => by simp at h⟩, (Below.refl _ _).alloc (Nat.le_refl _) _⟩
  case round =>
    obtain ⟨pre, post, zs, hpp, rfl, rfl, hown, hels, hb⟩ := hrel
    have a2 := (hb.cell (p := ⟨g, o + 1, none⟩) hg).trans HA1.out
    have HO := Lib.hid hown
    have HE := Lib.hid hels
    have HB := Lib.hid hb
    have HP := Lib.hid hpp
    have hlen : pre.length + post.length = q := by rw [← HQ.out, hpp]; simp
    clear hown hels hb hpp
    cases post with
    | nil =>
      simp only [List.length_nil, Nat.add_zero] at hlen
      have HF : Hid (pre = t.ks) := Lib.hid (by rw [HP.out]; simp)
      have hlt : ¬ (pre.length : Int) < q := by omega
      have HLN := Lib.hid hlen
      clear hlen
      go_wp2_with fail
      go_ret
      exact ⟨_, _, rfl, HO.out, by have := HE.out; rwa [HF.out] at this, HB.out⟩
    | cons u rest =>
      simp only [List.length_cons] at hlen
      have hdr := HDR.out pre (u :: rest) HP.out
      rw [flats_cons] at hdr
      have hoku : okT many u := by have := HKS.out; rw [HP.out, okTs_append, okTs_cons] at this; exact this.2.1
      have hnx := nxt_at hdr hoku
      have hpl := part_lt hdr
      have hup := flat_pos u
      have hlt : (pre.length : Int) < q := by omega
      rw [HN.out] at hpl
      generalize hi : 1 + (flats pre).length = i at *
      generalize hm : (flat u).length = m at *
      have HNX := Lib.hid hnx
      have HDRU : Hid (((flat t).drop i).take (i + m - i) = u.nd :: flats u.ks) := Lib.hid (by
        rw [hdr, show i + m - i = m by omega, ← hm, List.take_left, ← flat_eq])
      have HIX : Hid (1 + (flats (pre ++ [u])).length = i + m) := Lib.hid (by rw [flats_append, flats_cons]; simp; omega)
      have HPL := Lib.hid hlen
      have HUM := Lib.hid hm
      clear hdr hoku hnx hi hm hlen
      have hib : i ≤ n := by omega
      have hOW := refOwn_any (.slice (some ⟨g, o, none⟩) n c) (flat t) i (i + m) u.nd (flats u.ks) wr (HV.out.below HB.out) (by rw [HN.out]; exact hl) (by omega) (by rw [HN.out]; exact hpl) HDRU.out
      rw [Int.natCast_add] at hOW
      have HOW := Lib.hid hOW
      clear hOW
      go_wp2_with (go_at_call 55; refine (refNext_any _ (flat t) i _ (HV.out.below HB.out) (by rw [HN.out]; exact hl) (by rw [HN.out]; exact hib)).mono ?_; rintro e w' ⟨rfl, rfl⟩; rw [HNX.out])
      refine HOW.out.mono ?_
      rintro e w1 ⟨v1, rfl, ho1, hb1⟩
      obtain ⟨A1, c1, rfl, -⟩ := ho1.form
      have HZ : Hid (OwnN w.heap.size w1 (.slice A1 (noName u.nd :: flats u.ks).length c1) (flat (nmd [] u))) := Lib.hid (by rw [nmd, flat_mk]; exact ho1.mono HB.out.size)
      have HO1 := Lib.hid (HO.out.below hb1)
      have HE1 := Lib.hid (HE.out.below hb1)
      have HB1 := Lib.hid (Below.after HB.out hb1)
      clear ho1 hb1 a2
      generalize (noName u.nd :: flats u.ks).length = m2 at HZ ⊢
      have HZL : Hid (zs.length + 1 ≤ 65537) := Lib.hid (by have := HE1.out.1; rw [List.length_map] at this; omega)
      go_wp2_with (at_builtin; refine wpList_append_row (base := w.heap.size) elVal rfl _ _ rfl rfl (HO1.out.alloc _) rfl (row_one slc_len w1 _ rfl 45 #[.slice A1 m2 c1] (A1, m2, c1) rfl) ?_ ?_ ?_ ?_)
      · have := HZL.out; unfold maxLen; simp only [List.length_singleton]; omega
      · have := HZL.out; simp only [List.length_singleton]; omega
      · have := HB1.out.size; simp; omega
      · intro A' c' w2 hown2 hg2 hwh
        clear hwh
        have HO2 : Hid (Own slc 1 45 w.heap.size w2 (.slice A' (zs.length + 1) c') (zs ++ [(A1, m2, c1)])) := Lib.hid hown2
        have HE2 : Hid (Elems w.heap.size w2 (zs ++ [(A1, m2, c1)]) ((pre ++ [u]).map fun k => flat (nmd [] k))) := Lib.hid (by
          have h1 : Elems w.heap.size w2 zs (pre.map fun k => flat (nmd [] k)) := (HE1.out.below ((Below.refl _ _).alloc (Nat.le_refl _) _)).aside (HO1.out.alloc _) hg2
          have h2 : OwnN w.heap.size w2 (.slice A1 m2 c1) (flat (nmd [] u)) := Own.aside (HZ.out.alloc _) (HO1.out.alloc _) (by decide) hg2
          rw [List.map_append]
          exact h1.snoc h2)
        have HB2 : Hid (Below w.heap.size w w2) := Lib.hid ((HB1.out.alloc HB1.out.size _).trans ((HO1.out.alloc _).kept hg2 (by have := HB1.out.size; simp; omega)))
        clear hown2 hg2
        generalize zs.length + 1 = zl at HO2 ⊢
        go_wp2_with fail
        go_roundw
        case rel => exact ⟨pre ++ [u], rest, zs ++ [(A1, m2, c1)], by rw [HP.out]; simp, by simp, by rw [HIX.out]; go_num, HO2.out, HE2.out, HB2.out⟩
        case measure => simp [intOf]; omega

theorem refParts_any (v : Value) (t : Tr Nd) (w : World) (hv : Nds w v (flat t)) (hl : (flat t).length ≤ 65536) (ht : Val t) :
    Calls Tryz.prog 37 #[v] w (GivesV w (t.ks.map fun k => flat (nmd [] k))) :=
  (refParts_own v t w hv hl ht).mono fun _ _ ⟨v', _, h1, h2, h3, h4⟩ => ⟨v', h1, h3.vls (h2.row slc_len), h4⟩

set_option maxRecDepth 100000 in
set_option maxHeartbeats 4000000 in
theorem refNames_own (v : Value) (t : Tr Nd) (w : World) (hv : Nds w v (flat t)) (hl : (flat t).length ≤ 65536) (ht : Val t) :
    Calls Tryz.prog 39 #[v] w (OwnsS w (namesT t)) := by
  have hvo := hv
  obtain ⟨g, o, c, rfl, hc, hcm, hg, hx⟩ := hvo.opened (flat_pos t)
  have hmany : t.nd.many = t.ks.length := (okT_eq.1 ht.ok).1
  have a1 : w.cell? ⟨g, o + 1, none⟩ = some (.int .i64 (t.ks.length : Nat)) := by
    have := (hx 0 t.nd (by rw [flat_eq]; rfl)).nd.c1
    rw [hmany] at this
    simpa using this
  have a0 : w.cell? ⟨g, o, none⟩ = some (.int .i64 t.nd.kind) := by
    have := (hx 0 t.nd (by rw [flat_eq]; rfl)).nd.c0
    simpa using this
  have HA1 := Lib.hid a1
  have HV := Lib.hid hv
  have HXX := Lib.hid hx
  have HKS := Lib.hid (okT_eq.1 ht.ok).2
  have hkl : t.ks.length ≤ 65536 := by
    have h1 := flats_len t.ks
    rw [flat_eq] at hl
    simp at hl
    omega
  have hpos := flat_pos t
  have HDR : Hid (∀ pre post, t.ks = pre ++ post → (flat t).drop (1 + (flats pre).length) = flats post) := Lib.hid (fun pre post h => by
    rw [flat_eq, h, flats_append, Nat.add_comm, List.drop_succ_cons, List.drop_left])
  clear hx hv hvo hmany a1
  generalize hn : (flat t).length = n at *
  have HN := Lib.hid hn
  clear hn
  generalize hq : t.ks.length = q at *
  have HQ := Lib.hid hq
  clear hq
  have HO0 : Hid (Own stc 1 9 w.heap.size (w.alloc (.cells #[] 9)) (.slice (some ⟨w.heap.size, 0, none⟩) 0 0) []) := Lib.hid (by
    have := Own.lit (base := w.heap.size) (E := 9) stc_len w #[] [] (Nat.le_refl _) (by simp) rfl
    simpa using this)
  by_cases hk : t.nd.kind = 6
  · have HNT : Hid (namesT t = t.ks.map fun k => k.nd.name) := Lib.hid (by rw [namesT, if_pos hk])
    rw [hk] at a0
    have HA0 := Lib.hid a0
    clear a0 hk
    go_enter Tryz.func39, Tryz.ntmps39
    go_wp2_with fail
    go_loopw [3, 4, 5] (fun ov iv kv wr => ∃ (pre post : List (Tr Nd)), t.ks = pre ++ post ∧ kv = .int .i64 pre.length ∧ iv = .int .i64 (1 + (flats pre).length : Nat) ∧ Own stc 1 9 w.heap.size wr ov (pre.map fun k => k.nd.name) ∧ Below w.heap.size w wr) (fun _ _ kv _ => q - (intOf kv).toNat)
    case atStart => exact ⟨[], t.ks, rfl, rfl, rfl, HO0.out, (Below.refl _ _).alloc (Nat.le_refl _) _⟩
    case round =>
      obtain ⟨pre, post, hpp, rfl, rfl, hown, hb⟩ := hrel
      have a2 := (hb.cell (p := ⟨g, o + 1, none⟩) hg).trans HA1.out
      have a3 := (hb.cell (p := ⟨g, o, none⟩) hg).trans HA0.out
      have HO := Lib.hid hown
      have HB := Lib.hid hb
      have HP := Lib.hid hpp
      have hlen : pre.length + post.length = q := by rw [← HQ.out, hpp]; simp
      clear hown hpp
      cases post with
      | nil =>
        simp only [List.length_nil, Nat.add_zero] at hlen
        have HF : Hid (pre = t.ks) := Lib.hid (by rw [HP.out]; simp)
        have hlt : ¬ (pre.length : Int) < q := by omega
        clear hlen hb
        go_wp2_with fail
        go_ret
        exact ⟨_, rfl, by rw [HNT.out, ← HF.out]; exact HO.out, HB.out⟩
      | cons u rest =>
        simp only [List.length_cons] at hlen
        have hdr := HDR.out pre (u :: rest) HP.out
        rw [flats_cons] at hdr
        have hoku : okT many u := by have := HKS.out; rw [HP.out, okTs_append, okTs_cons] at this; exact this.2.1
        have hnx := nxt_at hdr hoku
        have hpl := part_lt hdr
        have hup := flat_pos u
        have hlt : (pre.length : Int) < q := by omega
        have hhd := head_at hdr
        rw [HN.out] at hpl
        generalize hi : 1 + (flats pre).length = i at *
        have b2 := (hb.cell (p := ⟨g, o + i * 6 + 2, none⟩) hg).trans (HXX.out i _ hhd).nd.c2
        generalize hm : (flat u).length = m at *
        have HNX := Lib.hid hnx
        have HIX : Hid (1 + (flats (pre ++ [u])).length = i + m) := Lib.hid (by rw [flats_append, flats_cons]; simp; omega)
        have HPL : Hid (pre.length + 1 ≤ 65537) := Lib.hid (by omega)
        have hii : (i : Int) < n := by omega
        have hiin : i < n := by omega
        generalize hnm : u.nd.name = nm at b2
        have HNM := Lib.hid hnm
        have hprel : (pre.map fun k => k.nd.name).length = pre.length := by simp
        generalize hpn : (pre.map fun k => k.nd.name) = pn at HO hprel
        have HPN := Lib.hid hpn
        have HPNL := Lib.hid hprel
        have hlq := hlen
        clear hdr hoku hnx hi hm hlen hhd hnm hpn hprel hb
        have HLQ := Lib.hid hlq
        clear hlq
        go_wp2_with (at_builtin; refine wpList_append_row (base := w.heap.size) elText rfl _ _ rfl rfl (HO.out.alloc _) rfl (row_one stc_len wr _ rfl 9 #[.string ⟨nm.toArray⟩] nm rfl) ?_ ?_ ?_ ?_)
        · have := HPL.out; have := HPNL.out; unfold maxLen; simp only [List.length_singleton]; omega
        · have := HPL.out; have := HPNL.out; simp only [List.length_singleton]; omega
        · have := HB.out.size; simp; omega
        · intro A' c' w2 hown2 hg2 hwh
          clear hwh
          have HO2 : Hid (Own stc 1 9 w.heap.size w2 (.slice A' (pn.length + 1) c') (pn ++ [nm])) := Lib.hid hown2
          have HB2 : Hid (Below w.heap.size w w2) := Lib.hid ((HB.out.alloc HB.out.size _).trans ((HO.out.alloc _).kept hg2 (by have := HB.out.size; simp; omega)))
          clear hown2 hg2
          generalize pn.length + 1 = zl at HO2 ⊢
          have hib : i ≤ n := by omega
          clear a2 a3 b2
          go_wp2_with (go_at_call 55; refine (refNext_any _ (flat t) i _ (HV.out.below HB2.out) (by rw [HN.out]; exact hl) (by rw [HN.out]; exact hib)).mono ?_; rintro e w' ⟨rfl, rfl⟩; rw [HNX.out])
          go_roundw
          case rel => exact ⟨pre ++ [u], rest, by rw [HP.out]; simp, by simp, by rw [HIX.out]; go_num, by rw [List.map_append, HPN.out]; have := HO2.out; rw [← HNM.out] at this; exact this, HB2.out⟩
          case measure => have := HLQ.out; simp [intOf]; omega
  · have HNT : Hid (namesT t = []) := Lib.hid (by rw [namesT, if_neg hk])
    have e6 : (t.nd.kind == 6) = false := by simp [hk]
    have a1 := HA1.out
    clear hk
    go_enter Tryz.func39, Tryz.ntmps39
    go_wp2_with fail
    go_loopw [3, 4, 5] (fun ov iv kv wr => kv = .int .i64 0 ∧ ov = .slice (some ⟨w.heap.size, 0, none⟩) 0 0 ∧ wr = w.alloc (.cells #[] 9)) (fun _ _ _ _ => 0)
    case atStart => exact ⟨rfl, rfl, rfl⟩
    case round =>
      obtain ⟨rfl, rfl, rfl⟩ := hrel
      by_cases hq0 : 0 < q
      · have hq1 : (0 : Int) < q := by omega
        go_wp2_with fail
        go_ret
        exact ⟨_, rfl, by rw [HNT.out]; exact HO0.out, (Below.refl _ _).alloc (Nat.le_refl _) _⟩
      · have hq1 : ¬ (0 : Int) < q := by omega
        go_wp2_with fail
        go_ret
        exact ⟨_, rfl, by rw [HNT.out]; exact HO0.out, (Below.refl _ _).alloc (Nat.le_refl _) _⟩
theorem refNames_any (v : Value) (t : Tr Nd) (w : World) (hv : Nds w v (flat t)) (hl : (flat t).length ≤ 65536) (ht : Val t) :
    Calls Tryz.prog 39 #[v] w (GivesS w (namesT t)) :=
  (refNames_own v t w hv hl ht).mono fun _ _ ⟨v', h1, h2, h4⟩ => ⟨v', h1, h2.row stc_len, h4⟩
end Go.Proofs.YtbhgmfddjnkglaaGreatDoor

/-
  What Beside answers of the number one.
-/
namespace Go.Proofs.YtbhgmfddjnkglaaGreatDoor
open Go.RowKit Np Rw Vp Ov Ap

theorem numRight_one (w : World) : Calls Tryz.prog 26 #[nda oneN] w fun e w' => e = .returned (.bool true) ∧ Below w.heap.size w w' := by
  have h := right_any 3 0 ⟨#[]⟩ ⟨#[49]⟩ false 0 w (by decide)
  rw [show right ⟨3, 0, (ByteArray.mk #[]).data.toList, (ByteArray.mk #[49]).data.toList, false, 0⟩ = true from oneN_right] at h
  exact h
set_option maxRecDepth 100000 in
theorem besideR_up (w : World) : Calls Tryz.prog 27 #[nda oneN, .bool true] w fun e w' => e = .returned (.tuple #[nda upN, .int .i64 0]) ∧ Below w.heap.size w w' := by
  have HF := Lib.hid (fun W => farther_one W)
  have hN := TwoB.new w oneN
  have hB : Below w.heap.size w ((w.alloc (.cells (nds oneN) 24)).alloc (.cells (nds ⟨0, 0, [], [], false, 0⟩) 24)) := ((Below.refl _ _).alloc (Nat.le_refl _) _).alloc (by simp) _
  unfold oneN at *
  go_enter Tryz.func27, Tryz.ntmps27
  go_wp2_with fail
  generalize ((w.alloc _).alloc _) = W0 at hN hB ⊢
  refine (HF.out W0).mono ?_
  rintro e w1 ⟨rfl, hb1⟩
  have hT1 := hN.below hb1
  have HB1 := Lib.hid (hB.trans (hb1.mono hB.size))
  clear hN hb1 hB HF
  obtain ⟨n0, n1, n2, n3, n4, n5, r0, r1, r2, r3, r4, r5, fz⟩ := hT1
  have f0 := fz 0 (by omega)
  have f1 := fz 1 (by omega)
  have f2 := fz 2 (by omega)
  have f3 := fz 3 (by omega)
  have f4 := fz 4 (by omega)
  have f5 := fz 5 (by omega)
  clear fz
  go_wp2_with fail
  refine bodyPost_ret (v := .tuple #[nda upN, .int .i64 0]) ?_ rfl ⟨rfl, (((((HB1.out.setCell (Nat.le_succ _) _).setCell (Nat.le_succ _) _).setCell (Nat.le_succ _) _).setCell (Nat.le_succ _) _).setCell (Nat.le_succ _) _).setCell (Nat.le_succ _) _⟩
  simp [results, Tryz.results27, go_sem, r0, r1, r2, r3, r4, r5]
set_option maxRecDepth 100000 in
theorem besideR_dn (w : World) : Calls Tryz.prog 27 #[nda oneN, .bool false] w fun e w' => e = .returned (.tuple #[nda dnN, .int .i64 0]) ∧ Below w.heap.size w w' := by
  have HF := Lib.hid (fun W => nearer_one W)
  have hN := TwoB.new w oneN
  have hB : Below w.heap.size w ((w.alloc (.cells (nds oneN) 24)).alloc (.cells (nds ⟨0, 0, [], [], false, 0⟩) 24)) := ((Below.refl _ _).alloc (Nat.le_refl _) _).alloc (by simp) _
  unfold oneN at *
  go_enter Tryz.func27, Tryz.ntmps27
  go_wp2_with fail
  generalize ((w.alloc _).alloc _) = W0 at hN hB ⊢
  refine (HF.out W0).mono ?_
  rintro e w1 ⟨rfl, hb1⟩
  have hT1 := hN.below hb1
  have HB1 := Lib.hid (hB.trans (hb1.mono hB.size))
  clear hN hb1 hB HF
  obtain ⟨n0, n1, n2, n3, n4, n5, r0, r1, r2, r3, r4, r5, fz⟩ := hT1
  have f0 := fz 0 (by omega)
  have f1 := fz 1 (by omega)
  have f2 := fz 2 (by omega)
  have f3 := fz 3 (by omega)
  have f4 := fz 4 (by omega)
  have f5 := fz 5 (by omega)
  clear fz
  go_wp2_with fail
  refine bodyPost_ret (v := .tuple #[nda dnN, .int .i64 0]) ?_ rfl ⟨rfl, (((((HB1.out.setCell (Nat.le_succ _) _).setCell (Nat.le_succ _) _).setCell (Nat.le_succ _) _).setCell (Nat.le_succ _) _).setCell (Nat.le_succ _) _).setCell (Nat.le_succ _) _⟩
  simp [results, Tryz.results27, go_sem, r0, r1, r2, r3, r4, r5]
set_option maxRecDepth 100000 in
theorem beside_up (w : World) : Calls Tryz.prog 15 #[nda oneN, .bool true] w fun e w' => e = .returned (.tuple #[nda upN, .bool true]) ∧ Below w.heap.size w w' := by
  have HF := Lib.hid (fun W => besideR_up W)
  have HR := Lib.hid (fun W => numRight_one W)
  have hN := TwoB.new w oneN
  have hB : Below w.heap.size w ((w.alloc (.cells (nds oneN) 24)).alloc (.cells (nds ⟨0, 0, [], [], false, 0⟩) 24)) := ((Below.refl _ _).alloc (Nat.le_refl _) _).alloc (by simp) _
  have HC : Hid (∀ W, TwoB w.heap.size oneN W → W.cell? ⟨w.heap.size, 0, none⟩ = some (.int .i64 3) ∧ W.cell? ⟨w.heap.size, 1, none⟩ = some (.int .i64 0) ∧ W.cell? ⟨w.heap.size, 2, none⟩ = some (.string ⟨#[]⟩) ∧ W.cell? ⟨w.heap.size, 3, none⟩ = some (.string ⟨#[49]⟩) ∧ W.cell? ⟨w.heap.size, 4, none⟩ = some (.bool false) ∧ W.cell? ⟨w.heap.size, 5, none⟩ = some (.int .i64 0)) := Lib.hid fun W h => ⟨h.n0, h.n1, h.n2, h.n3, h.n4, h.n5⟩
  unfold oneN at *
  go_enter Tryz.func15, Tryz.ntmps15
  go_wp2_with fail
  generalize ((w.alloc _).alloc _) = W0 at hN hB ⊢
  refine (HR.out W0).mono ?_
  rintro e w1 ⟨rfl, hb1⟩
  have hT1 := hN.below hb1
  have HB1 := Lib.hid (hB.trans (hb1.mono hB.size))
  clear hN hb1 hB HR
  obtain ⟨z0, z1, z2, z3, z4, z5⟩ := HC.out _ hT1
  have HT1 := Lib.hid hT1
  clear hT1
  go_wp2_with fail
  refine (HF.out _).mono ?_
  rintro e w2 ⟨rfl, hb2⟩
  have hT1 := HT1.out.below hb2
  have HB2 := Lib.hid (HB1.out.trans (hb2.mono HB1.out.size))
  clear HT1 hb2 HF z0 z1 z2 z3 z4 z5 HC
  have HT := Lib.hid hT1
  clear hT1
  go_upto_region 4 with fail
  have hBx : Below w2.heap.size w2 (w2.alloc (.cells (nds upN) 24)) := (Below.refl _ _).alloc (Nat.le_refl _) _
  have hT1 := HT.out.below hBx
  have hx : Nd6 (w2.alloc (.cells (nds upN) 24)) w2.heap.size 0 upN := by constructor <;> simp
  have HB3 := Lib.hid (HB2.out.trans (hBx.mono HB2.out.size))
  clear HT hBx
  generalize w2.alloc _ = w3 at hT1 hx HB3 ⊢
  obtain ⟨x0, x1, x2, x3, x4, x5⟩ := hx
  simp only [Nat.zero_add] at x1 x2 x3 x4 x5
  obtain ⟨n0, n1, n2, n3, n4, n5, r0, r1, r2, r3, r4, r5, fz⟩ := hT1
  have f0 := fz 0 (by omega)
  have f1 := fz 1 (by omega)
  have f2 := fz 2 (by omega)
  have f3 := fz 3 (by omega)
  have f4 := fz 4 (by omega)
  have f5 := fz 5 (by omega)
  clear fz
  go_wp2_with fail
  refine bodyPost_ret (v := .tuple #[nda upN, .bool true]) ?_ rfl ⟨rfl, (((((HB3.out.setCell (Nat.le_succ _) _).setCell (Nat.le_succ _) _).setCell (Nat.le_succ _) _).setCell (Nat.le_succ _) _).setCell (Nat.le_succ _) _).setCell (Nat.le_succ _) _⟩
  simp [results, Tryz.results15, go_sem, r0, r1, r2, r3, r4, r5]
set_option maxRecDepth 100000 in
theorem beside_dn (w : World) : Calls Tryz.prog 15 #[nda oneN, .bool false] w fun e w' => e = .returned (.tuple #[nda dnN, .bool true]) ∧ Below w.heap.size w w' := by
  have HF := Lib.hid (fun W => besideR_dn W)
  have HR := Lib.hid (fun W => numRight_one W)
  have hN := TwoB.new w oneN
  have hB : Below w.heap.size w ((w.alloc (.cells (nds oneN) 24)).alloc (.cells (nds ⟨0, 0, [], [], false, 0⟩) 24)) := ((Below.refl _ _).alloc (Nat.le_refl _) _).alloc (by simp) _
  have HC : Hid (∀ W, TwoB w.heap.size oneN W → W.cell? ⟨w.heap.size, 0, none⟩ = some (.int .i64 3) ∧ W.cell? ⟨w.heap.size, 1, none⟩ = some (.int .i64 0) ∧ W.cell? ⟨w.heap.size, 2, none⟩ = some (.string ⟨#[]⟩) ∧ W.cell? ⟨w.heap.size, 3, none⟩ = some (.string ⟨#[49]⟩) ∧ W.cell? ⟨w.heap.size, 4, none⟩ = some (.bool false) ∧ W.cell? ⟨w.heap.size, 5, none⟩ = some (.int .i64 0)) := Lib.hid fun W h => ⟨h.n0, h.n1, h.n2, h.n3, h.n4, h.n5⟩
  unfold oneN at *
  go_enter Tryz.func15, Tryz.ntmps15
  go_wp2_with fail
  generalize ((w.alloc _).alloc _) = W0 at hN hB ⊢
  refine (HR.out W0).mono ?_
  rintro e w1 ⟨rfl, hb1⟩
  have hT1 := hN.below hb1
  have HB1 := Lib.hid (hB.trans (hb1.mono hB.size))
  clear hN hb1 hB HR
  obtain ⟨z0, z1, z2, z3, z4, z5⟩ := HC.out _ hT1
  have HT1 := Lib.hid hT1
  clear hT1
  go_wp2_with fail
  refine (HF.out _).mono ?_
  rintro e w2 ⟨rfl, hb2⟩
  have hT1 := HT1.out.below hb2
  have HB2 := Lib.hid (HB1.out.trans (hb2.mono HB1.out.size))
  clear HT1 hb2 HF z0 z1 z2 z3 z4 z5 HC
  have HT := Lib.hid hT1
  clear hT1
  go_upto_region 4 with fail
  have hBx : Below w2.heap.size w2 (w2.alloc (.cells (nds dnN) 24)) := (Below.refl _ _).alloc (Nat.le_refl _) _
  have hT1 := HT.out.below hBx
  have hx : Nd6 (w2.alloc (.cells (nds dnN) 24)) w2.heap.size 0 dnN := by constructor <;> simp
  have HB3 := Lib.hid (HB2.out.trans (hBx.mono HB2.out.size))
  clear HT hBx
  generalize w2.alloc _ = w3 at hT1 hx HB3 ⊢
  obtain ⟨x0, x1, x2, x3, x4, x5⟩ := hx
  simp only [Nat.zero_add] at x1 x2 x3 x4 x5
  obtain ⟨n0, n1, n2, n3, n4, n5, r0, r1, r2, r3, r4, r5, fz⟩ := hT1
  have f0 := fz 0 (by omega)
  have f1 := fz 1 (by omega)
  have f2 := fz 2 (by omega)
  have f3 := fz 3 (by omega)
  have f4 := fz 4 (by omega)
  have f5 := fz 5 (by omega)
  clear fz
  go_wp2_with fail
  refine bodyPost_ret (v := .tuple #[nda dnN, .bool true]) ?_ rfl ⟨rfl, (((((HB3.out.setCell (Nat.le_succ _) _).setCell (Nat.le_succ _) _).setCell (Nat.le_succ _) _).setCell (Nat.le_succ _) _).setCell (Nat.le_succ _) _).setCell (Nat.le_succ _) _⟩
  simp [results, Tryz.results15, go_sem, r0, r1, r2, r3, r4, r5]
end Go.Proofs.YtbhgmfddjnkglaaGreatDoor
