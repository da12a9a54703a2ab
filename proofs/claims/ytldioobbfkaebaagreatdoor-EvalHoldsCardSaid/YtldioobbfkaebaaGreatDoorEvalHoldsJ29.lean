/-
  Joined: BackP, RefW7, PutP, ValW8, ValW13, AliveP.
-/
import Derived.Test.YtldioobbfkaebaaGreatDoorEvalHoldsJ14
import Derived.Test.YtldioobbfkaebaaGreatDoorEvalHoldsJ8
import Derived.Test.YtldioobbfkaebaaGreatDoorEvalHoldsJ13
import Derived.Test.YtldioobbfkaebaaGreatDoorEvalHoldsJ11
import Derived.StillTailTactics
set_option maxHeartbeats 4000000
set_option maxRecDepth 100000
namespace Go.Proofs.YtldioobbfkaebaaGreatDoor
section
namespace Vp
open Go.RowKit Np Rw
theorem part_val {t k : Tr Nd} (h : Val t) (hk : k ∈ t.ks) : Val (nmd [] k) := Val.clr (h.parts k hk).1 (h.parts k hk).2
theorem laid_named : ∀ ks : List (Tr Nd), laid ((ks.map fun k => k.nd.name).zip (ks.map fun k => flat (nmd [] k))) = flats ks
 | [] => rfl
 | k :: ks => by
  rw [List.map_cons, List.map_cons, List.zip_cons_cons, laid_cons, laid_named ks, flats_cons]
  show setNm k.nd.name (flat (nmd [] k)) ++ _ = _
  rw [← flat_nmd, nmd_nmd, nmd_self]
theorem obj_again {t : Tr Nd} (h : Val t) (hk : t.nd.kind = 6) : objB (t.ks.map fun k => k.nd.name) (t.ks.map fun k => flat (nmd [] k)) = true ∧ objV (t.ks.map fun k => k.nd.name) (t.ks.map fun k => flat (nmd [] k)) = flat t := by
 obtain ⟨h1, h2⟩ := h.named hk
 have hr : (t.ks.map fun k => k.nd.name).Pairwise (· < ·) := List.pairwise_map.2 h1
 have hb : objB (t.ks.map fun k => k.nd.name) (t.ks.map fun k => flat (nmd [] k)) = true := by
  refine objB_iff.2 ⟨by simp, ?_, fun s hs => ?_⟩
  ·exact hr.imp (fun {a b} hab (e : a = b) => by subst e; exact List.lt_irrefl a hab)
  ·obtain ⟨k, hk', rfl⟩ := List.mem_map.1 hs
   exact h2 k hk'
 refine ⟨hb, ?_⟩
 have hz : rises ((t.ks.map fun k => k.nd.name).zip (t.ks.map fun k => flat (nmd [] k))) := by
  have := List.pairwise_map (f := Prod.fst) (l := (t.ks.map fun k => k.nd.name).zip (t.ks.map fun k => flat (nmd [] k))) (R := (· < ·))
  rw [zip_keys (by simp)] at this
  exact this.1 hr
 rw [objV, if_pos hb, srt_of (List.Perm.refl _) hz, laid_named]
 conv => rhs; rw [h.obj hk, flat_objT]
 rw [List.length_map]
theorem mem_flats : ∀ {ts : List (Tr Nd)} {k : Tr Nd} {n : Nd}, k ∈ ts → n ∈ flat k → n ∈ flats ts
 | t :: ts, k, n, h, hn => by
  rw [flats_cons, List.mem_append]
  rcases List.mem_cons.1 h with rfl | h
  ·exact .inl hn
  ·exact .inr (mem_flats h hn)
end Vp
open Go.RowKit Np Rw in
def namesT (t : Tr Nd) : List (List UInt8) := if t.nd.kind = 6 then t.ks.map (fun k => k.nd.name) else []
end
section
open Go.RowKit Np Rw Vp
theorem refOwn_any (v : Value) (l : List Nd) (a b : Nat) (n : Nd) (rest : List Nd) (w : World) (hv : Nds w v l) (hl : l.length ≤ 65536) (hab : a < b) (hbl : b ≤ l.length) (hs : (l.drop a).take (b - a) = n :: rest) :
  Calls Tryz.prog 68 #[v, .int .i64 a, .int .i64 b] w (OwnsN w (noName n :: rest)) := by
 obtain ⟨g, o, c, rfl, hc, hcm, hg, -⟩ := hv.opened (by omega)
 have HPC : Hid (Nds w (.slice (some ⟨g, o + a * 6, none⟩) (b - a) (c - a)) (n :: rest)) := Lib.hid (by
  have := hv.piece a (b - a) (by omega)
  rwa [hs] at this)
 have HLN : Hid ((n :: rest).length = b - a) := Lib.hid (by rw [← hs]; simp; omega)
 clear hs hv
 generalize hn : l.length = N at *
 have hac : a ≤ c := by omega
 have hbc : b ≤ c := by omega
 have hane : ¬ a = c := by omega
 clear hn
 generalize hr : n :: rest = r at HPC HLN
 have HR := Lib.hid hr
 clear hr
 go_enter Tryz.func68, Tryz.ntmps68
 have HO0 : Hid (OwnN w.heap.size (w.alloc (.cells #[] 30)) (.slice (some ⟨w.heap.size, 0, none⟩) 0 0) []) := Lib.hid (by
  have := Own.lit (base := w.heap.size) (E := 30) ndc_len w #[] [] (Nat.le_refl _) (by simp) rfl
  simpa using this)
 go_wp2_with (at_builtin; refine wpList_append_row (base := w.heap.size) elNode rfl _ _ rfl rfl HO0.out rfl (HPC.out.below ((Below.refl _ _).alloc (Nat.le_refl _) _)) ?_ ?_ ?_ ?_)
 ·have := HLN.out; unfold maxLen; simp only [List.length_nil]; omega
 ·have := HLN.out; simp only [List.length_nil]; omega
 ·simp
 ·intro A3 c3 w3 hown3 hg3 hwh
  clear hwh
  have HO3 : Hid (OwnN w.heap.size w3 (.slice A3 r.length c3) r) := Lib.hid hown3
  have HB3 : Hid (Below w.heap.size w w3) := Lib.hid (((Below.refl w.heap.size w).alloc (Nat.le_refl _) (.cells #[] 30)).trans (HO0.out.kept hg3 (by simp)))
  clear hown3 hg3
  obtain ⟨g', rfl, hc3, HG⟩ : ∃ g', A3 = some ⟨g', 0, none⟩ ∧ b - a ≤ c3 ∧ Hid (w.heap.size ≤ g' ∧ g' < w3.heap.size) := by
   have h := HO3.out
   obtain ⟨g', cap, hv, h1, h2⟩ := h.opened (by have := HLN.out; omega)
   injection hv with e1 _ e3
   have := h.cap.2.1
   exact ⟨g', e1, by have := HLN.out; omega, Lib.hid ⟨h1, h2⟩⟩
  have hk0 : r[0]? = some n := by rw [← HR.out]; rfl
  have x0 := Own.cell ndc_len (j := 0) HO3.out hk0 rfl
  have x1 := Own.cell ndc_len (j := 1) HO3.out hk0 rfl
  have x2 := Own.cell ndc_len (j := 2) HO3.out hk0 rfl
  have x3 := Own.cell ndc_len (j := 3) HO3.out hk0 rfl
  have x4 := Own.cell ndc_len (j := 4) HO3.out hk0 rfl
  have x5 := Own.cell ndc_len (j := 5) HO3.out hk0 rfl
  simp only [Nat.zero_mul, Nat.zero_add] at x0 x1 x2 x3 x4 x5
  have HK0 := Lib.hid hk0
  clear hk0
  rw [HLN.out] at HO3 ⊢
  have hba : 0 < b - a := by omega
  have HTH : Hid (∀ ob : Obj, (w3.alloc ob).there g' 0 6) := Lib.hid (fun ob => by
   have h : OwnN w.heap.size (w3.alloc ob) (.slice (some ⟨g', 0, none⟩) r.length c3) r := by rw [HLN.out]; exact HO3.out.alloc ob
   have := Own.there ndc_len h HK0.out
   simpa using this)
  have HPU : Hid (∀ ob : Obj, OwnN w.heap.size ((w3.alloc ob).setCells g' 0 (ndc (noName n))) (.slice (some ⟨g', 0, none⟩) (b - a) c3) (noName n :: rest)) := Lib.hid (fun ob => by
   have h : OwnN w.heap.size (w3.alloc ob) (.slice (some ⟨g', 0, none⟩) r.length c3) r := by rw [HLN.out]; exact HO3.out.alloc ob
   have h2 := Own.puts (y := noName n) ndc_len h HK0.out
   rw [HLN.out] at h2
   rw [← HR.out] at h2
   simpa using h2)
  go_wp2_with (refine wpList_store_node rfl _ _ rfl g' 0 (noName n) rfl rfl (HTH.out _) ?_)
  go_ret
  exact ⟨_, rfl, HPU.out _, Below.setCells HG.out.1 _ _ (HB3.out.alloc HB3.out.size _)⟩
theorem Elems.aside {base : Nat} {W W' : World} {v : Value} {xs zs : List (Option Addr × Nat × Nat)} {L : List (List Nd)} (h : Elems base W zs L) (hv : Own slc 1 27 base W v xs) (hg : W.grownBy W' v.ownBlock) : Elems base W' zs L :=
 ⟨h.1, fun k z l hz hl => Own.aside (h.2 k z l hz hl) hv (by decide) hg⟩
def OwnsV (w : World) (L : List (List Nd)) (e : Ending) (w' : World) : Prop := ∃ v' zs, e = .returned v' ∧ Own slc 1 27 w.heap.size w' v' zs ∧ Elems w.heap.size w' zs L ∧ Below w.heap.size w w'
def OwnsS (w : World) (L : List (List UInt8)) (e : Ending) (w' : World) : Prop := ∃ v', e = .returned v' ∧ Own stc 1 9 w.heap.size w' v' L ∧ Below w.heap.size w w'
theorem refParts_own (v : Value) (t : Tr Nd) (w : World) (hv : Nds w v (flat t)) (hl : (flat t).length ≤ 65536) (ht : Val t) :
  Calls Tryz.prog 37 #[v] w (OwnsV w (t.ks.map fun k => flat (nmd [] k))) := by
 have hvo := hv
 obtain ⟨g, o, c, rfl, hc, hcm, hg, hx⟩ := hvo.opened (flat_pos t)
 have hmany : t.nd.many = t.ks.length := (okT_eq.1 ht.ok).1
 have a1 : w.cell? ⟨g, o + 1, none⟩ = some (.int .i64 (t.ks.length : Nat)) := by
  have := (hx 0 t.nd (by rw [flat_eq]; rfl)).nd.c1
  rw [hmany] at this
  simpa using this
 have HA1 := Lib.hid a1
 have HV := Lib.hid hv
 have HKS := Lib.hid (okT_eq.1 ht.ok).2
 have hkl : t.ks.length ≤ 65536 := by
  have h1 := flats_len t.ks
  rw [flat_eq] at hl
  simp at hl
  omega
 have hpos := flat_pos t
 have HDR : Hid (∀ pre post, t.ks = pre ++ post → (flat t).drop (1 + (flats pre).length) = flats post) := Lib.hid (fun pre post h => by
  rw [flat_eq, h, flats_append, Nat.add_comm, List.drop_succ_cons, List.drop_left])
 clear hx hv hvo hmany a1
 have HLL := Lib.hid hl
 generalize hn : (flat t).length = n at *
 have HN := Lib.hid hn
 clear hn
 generalize hq : t.ks.length = q at *
 have HQ := Lib.hid hq
 clear hq
 go_enter Tryz.func37, Tryz.ntmps37
 have HO0 : Hid (Own slc 1 27 w.heap.size (w.alloc (.cells #[] 27)) (.slice (some ⟨w.heap.size, 0, none⟩) 0 0) []) := Lib.hid (by
  have := Own.lit (base := w.heap.size) (E := 27) slc_len w #[] [] (Nat.le_refl _) (by simp) rfl
  simpa using this)
 go_wp2_with fail
 go_loopw [3, 4, 5] (fun ov iv kv wr => ∃ (pre post : List (Tr Nd)) (zs : List (Option Addr × Nat × Nat)), t.ks = pre ++ post ∧ kv = .int .i64 pre.length ∧ iv = .int .i64 (1 + (flats pre).length : Nat) ∧ Own slc 1 27 w.heap.size wr ov zs ∧ Elems w.heap.size wr zs (pre.map fun k => flat (nmd [] k)) ∧ Below w.heap.size w wr) (fun _ _ kv _ => q - (intOf kv).toNat)
 case atStart => exact ⟨[], t.ks, [], rfl, rfl, rfl, HO0.out, ⟨rfl, fun k z l h => by simp at h⟩, (Below.refl _ _).alloc (Nat.le_refl _) _⟩
 case round =>
  obtain ⟨pre, post, zs, hpp, rfl, rfl, hown, hels, hb⟩ := hrel
  have a2 := (hb.cell (p := ⟨g, o + 1, none⟩) hg).trans HA1.out
  have HO := Lib.hid hown
  have HE := Lib.hid hels
  have HB := Lib.hid hb
  have HP := Lib.hid hpp
  have hlen : pre.length + post.length = q := by rw [← HQ.out, hpp]; simp
  clear hown hels hb hpp
  cases post with
  | nil =>
   simp only [List.length_nil, Nat.add_zero] at hlen
   have HF : Hid (pre = t.ks) := Lib.hid (by rw [HP.out]; simp)
   have hlt : ¬ (pre.length : Int) < q := by omega
   have HLN := Lib.hid hlen
   clear hlen
   go_wp2_with fail
   go_ret
   exact ⟨_, _, rfl, HO.out, by have := HE.out; rwa [HF.out] at this, HB.out⟩
  | cons u rest =>
   simp only [List.length_cons] at hlen
   have hdr := HDR.out pre (u :: rest) HP.out
   rw [flats_cons] at hdr
   have hoku : okT many u := by have := HKS.out; rw [HP.out, okTs_append, okTs_cons] at this; exact this.2.1
   have hnx := nxt_at hdr hoku
   have hpl := part_lt hdr
   have hup := flat_pos u
   have hlt : (pre.length : Int) < q := by omega
   rw [HN.out] at hpl
   generalize hi : 1 + (flats pre).length = i at *
   generalize hm : (flat u).length = m at *
   have HNX := Lib.hid hnx
   have HDRU : Hid (((flat t).drop i).take (i + m - i) = u.nd :: flats u.ks) := Lib.hid (by
    rw [hdr, show i + m - i = m by omega, ← hm, List.take_left, ← flat_eq])
   have HIX : Hid (1 + (flats (pre ++ [u])).length = i + m) := Lib.hid (by rw [flats_append, flats_cons]; simp; omega)
   have HPL := Lib.hid hlen
   have HUM := Lib.hid hm
   clear hdr hoku hnx hi hm hlen
   have hib : i ≤ n := by omega
   have hOW := refOwn_any (.slice (some ⟨g, o, none⟩) n c) (flat t) i (i + m) u.nd (flats u.ks) wr (HV.out.below HB.out) (by rw [HN.out]; exact hl) (by omega) (by rw [HN.out]; exact hpl) HDRU.out
   rw [Int.natCast_add] at hOW
   have HOW := Lib.hid hOW
   clear hOW
   go_wp2_with (go_at_call 67; refine (refNext_any _ (flat t) i _ (HV.out.below HB.out) (by rw [HN.out]; exact hl) (by rw [HN.out]; exact hib)).mono ?_; rintro e w' ⟨rfl, rfl⟩; rw [HNX.out])
   refine HOW.out.mono ?_
   rintro e w1 ⟨v1, rfl, ho1, hb1⟩
   obtain ⟨A1, c1, rfl, -⟩ := ho1.form
   have HZ : Hid (OwnN w.heap.size w1 (.slice A1 (noName u.nd :: flats u.ks).length c1) (flat (nmd [] u))) := Lib.hid (by rw [nmd, flat_mk]; exact ho1.mono HB.out.size)
   have HO1 := Lib.hid (HO.out.below hb1)
   have HE1 := Lib.hid (HE.out.below hb1)
   have HB1 := Lib.hid (Below.after HB.out hb1)
   clear ho1 hb1 a2
   generalize (noName u.nd :: flats u.ks).length = m2 at HZ ⊢
   have HZL : Hid (zs.length + 1 ≤ 65537) := Lib.hid (by have := HE1.out.1; rw [List.length_map] at this; omega)
   go_wp2_with (at_builtin; refine wpList_append_row (base := w.heap.size) elVal rfl _ _ rfl rfl (HO1.out.alloc _) rfl (row_one slc_len w1 _ rfl 27 #[.slice A1 m2 c1] (A1, m2, c1) rfl) ?_ ?_ ?_ ?_)
   ·have := HZL.out; unfold maxLen; simp only [List.length_singleton]; omega
   ·have := HZL.out; simp only [List.length_singleton]; omega
   ·have := HB1.out.size; simp; omega
   ·intro A' c' w2 hown2 hg2 hwh
    clear hwh
    have HO2 : Hid (Own slc 1 27 w.heap.size w2 (.slice A' (zs.length + 1) c') (zs ++ [(A1, m2, c1)])) := Lib.hid hown2
    have HE2 : Hid (Elems w.heap.size w2 (zs ++ [(A1, m2, c1)]) ((pre ++ [u]).map fun k => flat (nmd [] k))) := Lib.hid (by
     have h1 : Elems w.heap.size w2 zs (pre.map fun k => flat (nmd [] k)) := (HE1.out.below ((Below.refl _ _).alloc (Nat.le_refl _) _)).aside (HO1.out.alloc _) hg2
     have h2 : OwnN w.heap.size w2 (.slice A1 m2 c1) (flat (nmd [] u)) := Own.aside (HZ.out.alloc _) (HO1.out.alloc _) (by decide) hg2
     rw [List.map_append]
     exact h1.snoc h2)
    have HB2 : Hid (Below w.heap.size w w2) := Lib.hid ((HB1.out.alloc HB1.out.size _).trans ((HO1.out.alloc _).kept hg2 (by have := HB1.out.size; simp; omega)))
    clear hown2 hg2
    generalize zs.length + 1 = zl at HO2 ⊢
    go_wp2_with fail
    go_roundw
    case rel => exact ⟨pre ++ [u], rest, zs ++ [(A1, m2, c1)], by rw [HP.out]; simp, by simp, by rw [HIX.out]; go_num, HO2.out, HE2.out, HB2.out⟩
    case measure => simp [intOf]; omega
theorem refParts_any (v : Value) (t : Tr Nd) (w : World) (hv : Nds w v (flat t)) (hl : (flat t).length ≤ 65536) (ht : Val t) :
  Calls Tryz.prog 37 #[v] w (GivesV w (t.ks.map fun k => flat (nmd [] k))) :=
 (refParts_own v t w hv hl ht).mono fun _ _ ⟨v', _, h1, h2, h3, h4⟩ => ⟨v', h1, h3.vls (h2.row slc_len), h4⟩
theorem refNames_own (v : Value) (t : Tr Nd) (w : World) (hv : Nds w v (flat t)) (hl : (flat t).length ≤ 65536) (ht : Val t) :
  Calls Tryz.prog 36 #[v] w (OwnsS w (namesT t)) := by
 have hvo := hv
 obtain ⟨g, o, c, rfl, hc, hcm, hg, hx⟩ := hvo.opened (flat_pos t)
 have hmany : t.nd.many = t.ks.length := (okT_eq.1 ht.ok).1
 have a1 : w.cell? ⟨g, o + 1, none⟩ = some (.int .i64 (t.ks.length : Nat)) := by
  have := (hx 0 t.nd (by rw [flat_eq]; rfl)).nd.c1
  rw [hmany] at this
  simpa using this
 have a0 : w.cell? ⟨g, o, none⟩ = some (.int .i64 t.nd.kind) := by
  have := (hx 0 t.nd (by rw [flat_eq]; rfl)).nd.c0
  simpa using this
 have HA1 := Lib.hid a1
 have HV := Lib.hid hv
 have HXX := Lib.hid hx
 have HKS := Lib.hid (okT_eq.1 ht.ok).2
 have hkl : t.ks.length ≤ 65536 := by
  have h1 := flats_len t.ks
  rw [flat_eq] at hl
  simp at hl
  omega
 have hpos := flat_pos t
 have HDR : Hid (∀ pre post, t.ks = pre ++ post → (flat t).drop (1 + (flats pre).length) = flats post) := Lib.hid (fun pre post h => by
  rw [flat_eq, h, flats_append, Nat.add_comm, List.drop_succ_cons, List.drop_left])
 clear hx hv hvo hmany a1
 generalize hn : (flat t).length = n at *
 have HN := Lib.hid hn
 clear hn
 generalize hq : t.ks.length = q at *
 have HQ := Lib.hid hq
 clear hq
 have HO0 : Hid (Own stc 1 9 w.heap.size (w.alloc (.cells #[] 9)) (.slice (some ⟨w.heap.size, 0, none⟩) 0 0) []) := Lib.hid (by
  have := Own.lit (base := w.heap.size) (E := 9) stc_len w #[] [] (Nat.le_refl _) (by simp) rfl
  simpa using this)
 by_cases hk : t.nd.kind = 6
 ·have HNT : Hid (namesT t = t.ks.map fun k => k.nd.name) := Lib.hid (by rw [namesT, if_pos hk])
  rw [hk] at a0
  have HA0 := Lib.hid a0
  clear a0 hk
  go_enter Tryz.func36, Tryz.ntmps36
  go_wp2_with fail
  go_loopw [3, 4, 5] (fun ov iv kv wr => ∃ (pre post : List (Tr Nd)), t.ks = pre ++ post ∧ kv = .int .i64 pre.length ∧ iv = .int .i64 (1 + (flats pre).length : Nat) ∧ Own stc 1 9 w.heap.size wr ov (pre.map fun k => k.nd.name) ∧ Below w.heap.size w wr) (fun _ _ kv _ => q - (intOf kv).toNat)
  case atStart => exact ⟨[], t.ks, rfl, rfl, rfl, HO0.out, (Below.refl _ _).alloc (Nat.le_refl _) _⟩
  case round =>
   obtain ⟨pre, post, hpp, rfl, rfl, hown, hb⟩ := hrel
   have a2 := (hb.cell (p := ⟨g, o + 1, none⟩) hg).trans HA1.out
   have a3 := (hb.cell (p := ⟨g, o, none⟩) hg).trans HA0.out
   have HO := Lib.hid hown
   have HB := Lib.hid hb
   have HP := Lib.hid hpp
   have hlen : pre.length + post.length = q := by rw [← HQ.out, hpp]; simp
   clear hown hpp
   cases post with
   | nil =>
    simp only [List.length_nil, Nat.add_zero] at hlen
    have HF : Hid (pre = t.ks) := Lib.hid (by rw [HP.out]; simp)
    have hlt : ¬ (pre.length : Int) < q := by omega
    clear hlen hb
    go_wp2_with fail
    go_ret
    exact ⟨_, rfl, by rw [HNT.out, ← HF.out]; exact HO.out, HB.out⟩
   | cons u rest =>
    simp only [List.length_cons] at hlen
    have hdr := HDR.out pre (u :: rest) HP.out
    rw [flats_cons] at hdr
    have hoku : okT many u := by have := HKS.out; rw [HP.out, okTs_append, okTs_cons] at this; exact this.2.1
    have hnx := nxt_at hdr hoku
    have hpl := part_lt hdr
    have hup := flat_pos u
    have hlt : (pre.length : Int) < q := by omega
    have hhd := head_at hdr
    rw [HN.out] at hpl
    generalize hi : 1 + (flats pre).length = i at *
    have b2 := (hb.cell (p := ⟨g, o + i * 6 + 2, none⟩) hg).trans (HXX.out i _ hhd).nd.c2
    generalize hm : (flat u).length = m at *
    have HNX := Lib.hid hnx
    have HIX : Hid (1 + (flats (pre ++ [u])).length = i + m) := Lib.hid (by rw [flats_append, flats_cons]; simp; omega)
    have HPL : Hid (pre.length + 1 ≤ 65537) := Lib.hid (by omega)
    have hii : (i : Int) < n := by omega
    have hiin : i < n := by omega
    generalize hnm : u.nd.name = nm at b2
    have HNM := Lib.hid hnm
    have hprel : (pre.map fun k => k.nd.name).length = pre.length := by simp
    generalize hpn : (pre.map fun k => k.nd.name) = pn at HO hprel
    have HPN := Lib.hid hpn
    have HPNL := Lib.hid hprel
    have hlq := hlen
    clear hdr hoku hnx hi hm hlen hhd hnm hpn hprel hb
    have HLQ := Lib.hid hlq
    clear hlq
    go_wp2_with (at_builtin; refine wpList_append_row (base := w.heap.size) elText rfl _ _ rfl rfl (HO.out.alloc _) rfl (row_one stc_len wr _ rfl 9 #[.string ⟨nm.toArray⟩] nm rfl) ?_ ?_ ?_ ?_)
    ·have := HPL.out; have := HPNL.out; unfold maxLen; simp only [List.length_singleton]; omega
    ·have := HPL.out; have := HPNL.out; simp only [List.length_singleton]; omega
    ·have := HB.out.size; simp; omega
    ·intro A' c' w2 hown2 hg2 hwh
     clear hwh
     have HO2 : Hid (Own stc 1 9 w.heap.size w2 (.slice A' (pn.length + 1) c') (pn ++ [nm])) := Lib.hid hown2
     have HB2 : Hid (Below w.heap.size w w2) := Lib.hid ((HB.out.alloc HB.out.size _).trans ((HO.out.alloc _).kept hg2 (by have := HB.out.size; simp; omega)))
     clear hown2 hg2
     generalize pn.length + 1 = zl at HO2 ⊢
     have hib : i ≤ n := by omega
     clear a2 a3 b2
     go_wp2_with (go_at_call 67; refine (refNext_any _ (flat t) i _ (HV.out.below HB2.out) (by rw [HN.out]; exact hl) (by rw [HN.out]; exact hib)).mono ?_; rintro e w' ⟨rfl, rfl⟩; rw [HNX.out])
     go_roundw
     case rel => exact ⟨pre ++ [u], rest, by rw [HP.out]; simp, by simp, by rw [HIX.out]; go_num, by rw [List.map_append, HPN.out]; have := HO2.out; rw [← HNM.out] at this; exact this, HB2.out⟩
     case measure => have := HLQ.out; simp [intOf]; omega
 ·have HNT : Hid (namesT t = []) := Lib.hid (by rw [namesT, if_neg hk])
  have e6 : (t.nd.kind == 6) = false := by simp [hk]
  have a1 := HA1.out
  clear hk
  go_enter Tryz.func36, Tryz.ntmps36
  go_wp2_with fail
  go_loopw [3, 4, 5] (fun ov iv kv wr => kv = .int .i64 0 ∧ ov = .slice (some ⟨w.heap.size, 0, none⟩) 0 0 ∧ wr = w.alloc (.cells #[] 9)) (fun _ _ _ _ => 0)
  case atStart => exact ⟨rfl, rfl, rfl⟩
  case round =>
   obtain ⟨rfl, rfl, rfl⟩ := hrel
   by_cases hq0 : 0 < q
   ·have hq1 : (0 : Int) < q := by omega
    go_wp2_with fail
    go_ret
    exact ⟨_, rfl, by rw [HNT.out]; exact HO0.out, (Below.refl _ _).alloc (Nat.le_refl _) _⟩
   ·have hq1 : ¬ (0 : Int) < q := by omega
    go_wp2_with fail
    go_ret
    exact ⟨_, rfl, by rw [HNT.out]; exact HO0.out, (Below.refl _ _).alloc (Nat.le_refl _) _⟩
theorem refNames_any (v : Value) (t : Tr Nd) (w : World) (hv : Nds w v (flat t)) (hl : (flat t).length ≤ 65536) (ht : Val t) :
  Calls Tryz.prog 36 #[v] w (GivesS w (namesT t)) :=
 (refNames_own v t w hv hl ht).mono fun _ _ ⟨v', h1, h2, h4⟩ => ⟨v', h1, h2.row stc_len, h4⟩
end
section
namespace Vp
open Go.RowKit Np Rw
def loT (nm : List UInt8) (ts : List (Tr Nd)) : List (Tr Nd) := ts.filter (fun u => decide (u.nd.name < nm))
def hiT (nm : List UInt8) (ts : List (Tr Nd)) : List (Tr Nd) := ts.filter (fun u => decide (nm < u.nd.name))
def eqT (nm : List UInt8) (ts : List (Tr Nd)) : List (Tr Nd) := ts.filter (fun u => decide (u.nd.name = nm))
def withT (nm : List UInt8) (x t : Tr Nd) : Tr Nd := objT (loT nm t.ks ++ ([nmd nm x] ++ hiT nm t.ks))
def lessT (nm : List UInt8) (t : Tr Nd) : Tr Nd := objT (loT nm t.ks ++ ([] ++ hiT nm t.ks))
theorem cut_of {nm : List UInt8} {ts : List (Tr Nd)} (h : Rise ts) : Cut nm ts (loT nm ts) (eqT nm ts) (hiT nm ts) := by
 obtain ⟨pre, mid, post, hc⟩ := cut_ex nm ts h
 have key : pre = loT nm ts ∧ mid = eqT nm ts ∧ post = hiT nm ts := by
  have e1 : ∀ (p : Tr Nd → Bool) (l : List (Tr Nd)), (∀ u ∈ l, p u = true) → l.filter p = l := fun p l h => List.filter_eq_self.2 h
  have e2 : ∀ (p : Tr Nd → Bool) (l : List (Tr Nd)), (∀ u ∈ l, p u = false) → l.filter p = [] := fun p l h => List.filter_eq_nil_iff.2 (fun u hu => by simp [h u hu])
  have hlt : ∀ {a b : List UInt8}, a < b → ¬ b < a := fun h1 h2 => List.lt_irrefl _ (List.lt_trans h1 h2)
  have hne : ∀ {a b : List UInt8}, a < b → ¬ a = b := fun h1 h2 => List.lt_irrefl _ (h2 ▸ h1)
  unfold loT eqT hiT
  rw [hc.all]
  simp only [List.filter_append]
  refine ⟨?_, ?_, ?_⟩
  ·rw [e1 _ pre (fun u hu => by simpa using hc.lo u hu), e2 _ mid (fun u hu => by simp [hc.eq u hu, List.lt_irrefl]), e2 _ post (fun u hu => by simpa using hlt (hc.hi u hu))]; simp
  ·rw [e2 _ pre (fun u hu => by simpa using hne (hc.lo u hu)), e1 _ mid (fun u hu => by simpa using hc.eq u hu), e2 _ post (fun u hu => by simpa using fun e => hne (hc.hi u hu) e.symm)]; simp
  ·rw [e2 _ pre (fun u hu => by simpa using hlt (hc.lo u hu)), e2 _ mid (fun u hu => by simp [hc.eq u hu, List.lt_irrefl]), e1 _ post (fun u hu => by simpa using hc.hi u hu)]; simp
 obtain ⟨rfl, rfl, rfl⟩ := key
 exact hc
theorem Cut.mk' {nm : List UInt8} {pre mid post : List (Tr Nd)} (lo : ∀ u ∈ pre, u.nd.name < nm) (eq : ∀ u ∈ mid, u.nd.name = nm) (one : mid.length ≤ 1) (hi : ∀ u ∈ post, nm < u.nd.name) : Cut nm (pre ++ (mid ++ post)) pre mid post := ⟨rfl, lo, eq, one, hi⟩
theorem Val.cut {t : Tr Nd} (h : Val t) (hk : t.nd.kind = 6) (nm : List UInt8) : Cut nm t.ks (loT nm t.ks) (eqT nm t.ks) (hiT nm t.ks) := cut_of (h.named hk).1
theorem val_put {t x : Tr Nd} {nm : List UInt8} (h : Val t) (hk : t.nd.kind = 6) (hx : Val x) (hn : vld nm = true) : Val (withT nm x t) := by
 have hc := h.cut hk nm
 have hr := (h.named hk).1
 refine val_objT (fun u hu => ?_) ⟨rise_put (hc.pre_rise hr) (hc.post_rise hr) hc.lo hc.hi (by intro u hu; simp at hu; rw [hu]; rfl) (by simp), fun u hu => ?_⟩
 ·rcases List.mem_append.1 hu with hu | hu
  ·exact h.parts u (List.mem_filter.1 hu).1
  ·rcases List.mem_append.1 hu with hu | hu
   ·simp at hu; subst hu; exact ⟨okT_nmd hx.ok, by rw [rightT_nmd]; exact hx.rt⟩
   ·exact h.parts u (List.mem_filter.1 hu).1
 ·rcases List.mem_append.1 hu with hu | hu
  ·exact (h.named hk).2 u (List.mem_filter.1 hu).1
  ·rcases List.mem_append.1 hu with hu | hu
   ·simp at hu; subst hu; exact hn
   ·exact (h.named hk).2 u (List.mem_filter.1 hu).1
theorem val_less {t : Tr Nd} {nm : List UInt8} (h : Val t) (hk : t.nd.kind = 6) : Val (lessT nm t) := by
 have hc := h.cut hk nm
 have hr := (h.named hk).1
 refine val_objT (fun u hu => ?_) ⟨rise_put (hc.pre_rise hr) (hc.post_rise hr) hc.lo hc.hi (by simp) (by simp), fun u hu => ?_⟩
 ·rcases List.mem_append.1 hu with hu | hu
  ·exact h.parts u (List.mem_filter.1 hu).1
  ·simp at hu; exact h.parts u (List.mem_filter.1 hu).1
 ·rcases List.mem_append.1 hu with hu | hu
  ·exact (h.named hk).2 u (List.mem_filter.1 hu).1
  ·simp at hu; exact (h.named hk).2 u (List.mem_filter.1 hu).1
theorem len_parts {t : Tr Nd} (h : Val t) (hk : t.nd.kind = 6) (nm : List UInt8) : (flat t).length = 1 + (flats (loT nm t.ks)).length + (flats (eqT nm t.ks)).length + (flats (hiT nm t.ks)).length := by
 have hc := h.cut hk nm
 rw [flat_eq]
 conv => lhs; rw [hc.all]
 rw [flats_append, flats_append]; simp; omega
theorem len_less (nm : List UInt8) (t : Tr Nd) : (flat (lessT nm t)).length = 1 + (flats (loT nm t.ks)).length + (flats (hiT nm t.ks)).length := by
 rw [lessT, flat_objT, flats_append, flats_append]; simp; omega
end Vp
end
section
open Go.RowKit Go.Shelf Np Rw Vp
attribute [local go_sem] Oper.semAt_some
def NI {L : List Nd} (w : World) (pre : List (Pt L)) (W : World) : Prop :=
 (∃ v, Boxed W w.heap.size 45 v ∧ Own stc 1 9 w.heap.size W v (pre.map fun x => x.1.2.nd.name)) ∧ Below w.heap.size w W
theorem NI.own {L : List Nd} (w : World) (B : Nat) (hB : w.heap.size ≤ B) : OwnFrom B (NI (L := L) w) := by
 intro s W W' row hs hg hr
 obtain ⟨⟨v, h1, h2⟩, h4⟩ := hs
 have hr' : ∀ r, row = some r → ∃ o : Obj, W.heap[r]? = some o ∧ o.isCells = false := fun r e => (hr r e).2
 exact ⟨⟨v, boxed_turned h1 hg hr', h2.turned hg hr'⟩, ownFrom_below (β := Unit) (Nat.le_refl _) hB () W W' row h4 hg hr⟩
theorem NI.step {L : List Nd} {w W W3 : World} {pre : List (Pt L)} {x : Pt L} {v0 : Value} {v3 : Value} (hb0 : Boxed W w.heap.size 45 v0) (hown : Own stc 1 9 w.heap.size W v0 (pre.map fun x => x.1.2.nd.name))
  (hB : Below w.heap.size w W) (h3 : Own stc 1 9 w.heap.size W3 v3 ((pre.map fun x => x.1.2.nd.name) ++ [x.1.2.nd.name])) (hg : (W.drew.alloc (.cells #[.string ⟨x.1.2.nd.name.toArray⟩] 9)).grownBy W3 v0.ownBlock) :
  Boxed W3 w.heap.size 45 v0 ∧ KeepsOthers W (W3.setCell ⟨w.heap.size, 0, none⟩ v3) ∧ Below w.heap.size W (W3.setCell ⟨w.heap.size, 0, none⟩ v3) ∧ NI w (pre ++ [x]) (W3.setCell ⟨w.heap.size, 0, none⟩ v3) := by
 have hbx := hb0.lt
 have hBs := hB.size
 have h2 : Below W.heap.size W (W.drew.alloc (.cells #[.string ⟨x.1.2.nd.name.toArray⟩] 9)) := ((Below.refl _ W).drew).alloc (Nat.le_refl _) _
 have hz2 := h2.size
 have hb2 : Boxed (W.drew.alloc (.cells #[.string ⟨x.1.2.nd.name.toArray⟩] 9)) w.heap.size 45 v0 := (h2.block _ hbx).trans hb0
 have ho2 : Own stc 1 9 w.heap.size (W.drew.alloc (.cells #[.string ⟨x.1.2.nd.name.toArray⟩] 9)) v0 (pre.map fun x => x.1.2.nd.name) := hown.below h2
 have hne : some w.heap.size ≠ v0.ownBlock := hb2.not_row (by decide) ho2
 have hb3 : Boxed W3 w.heap.size 45 v0 := hb2.kept hg hne
 have hne3 : v3.ownBlock ≠ some w.heap.size := fun e => (hb3.not_row (by decide) h3) e.symm
 have hlow : Below w.heap.size W W3 := (h2.mono hBs).trans (ho2.kept hg (by omega))
 have hset := hlow.setCell (p := ⟨w.heap.size, 0, none⟩) (Nat.le_refl _) v3
 refine ⟨hb3, ?_, hset, ⟨v3, hb3.set v3, ?_⟩, hB.trans hset⟩
 ·refine ((keeps_below h2).trans (KeepsOthers.of_grownBy hg (fun j o e ho => ?_))).trans (KeepsOthers.setCell _ _ _)
  obtain ⟨g, cap, cur, hv, _, hh, _⟩ := (ho2.2).resolve_left (fun h => by rw [h.1] at e; cases e)
  rw [hv] at e
  cases e
  rw [hh] at ho
  cases ho
  rfl
 ·rw [List.map_append, List.map_singleton]
  exact ownsRow_setCell_other h3 hne3 v3
end
section
open Go.RowKit Np Rw Vp
end
section
open Go.RowKit Np Rw Vp
end
end Go.Proofs.YtldioobbfkaebaaGreatDoor
