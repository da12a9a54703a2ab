/-
  Joined: TmS, FrI, FrJ, TermPipes, TermPipesCardA.
-/
import Derived.Test.YtmajkafoenfceaaGreatDoorTermPipeJ1
import Derived.Deep.AppendLies
import Derived.Test.YtmajkafoenfceaaGreatDoorTermPipeJ12
import Derived.Test.YtmajkafoenfceaaGreatDoorTermPipeJ11
import Derived.Deep.RegionHeld3
import Derived.Test.YtmajkafoenfceaaGreatDoorTermPipeJ21
import Derived.Test.YtmajkafoenfceaaGreatDoorTermPipeJ4

/-
  Terms in memory, further: a whole term written; an append in a region whose order is open.
-/
namespace Go.Proofs.YtmajkafoenfceaaGreatDoor
open Go.RowKit Np Rw Vp Pw Fw

/-- At the operation that writes a whole term. -/
theorem wpList_store_term {ops : Array Oper} {rest : List Oper} {op : Oper} {a : Act} {w : World} {Q : Exit → Act → World → Prop} (hgd : op.guard = none) (x y : Operand) (ho : op.op = .store 37 x y)
    (g o : Nat) (n : Tm) (hx : a.eval x = .pointer (some ⟨g, o, none⟩)) (hy : a.eval y = tma n) (ht : w.there g o 11) (h : wpList Tryz.prog ops Q rest (a.put op.dst undef) (w.setCells g o (tmc n))) : wpList Tryz.prog ops Q (op :: rest) a w := by
  refine wpList_store_mid hgd 37 x y ho g o _ hx hy ht ?_ (all_oneCell_toArray (cs := tmc n) (elTerm.one n)) h
  have := term_info
  cases h : Tryz.prog.info? 37 with
  | none => rw [h] at this; cases this
  | some i => rw [h] at this; simp at this; simp [this.2.1]

section
variable {α : Type} {P : Program} {enc : α → List Value} {T E sz bys base : Nat} {w : World}
/-- At an append of a region that draws: v is the call's own, x any slice that is not empty. -/
theorem step_append_row (el : Elem P T E enc sz bys) {ops : Array Oper} {o : Oper} {a : Act} {K : Act → World → Prop} {Q : Exit → Act → World → Prop} {R : Prop} (hgd : o.guard = none) (s x : Operand)
    (ho : o.op = .call { callee := .builtin .append, args := #[s, x], argTypes := #[T, T] }) {v r : Value} {l l2 : List α} (hs : a.eval s = v) (hown : Own enc sz E base w v l) (hx : a.eval x = r) (hr : Row enc sz w r l2) (h0 : 0 < l2.length)
    (h63 : l.length + l2.length ≤ maxLen) (hby : (l.length + l2.length) * bys ≤ 140737488355328) (hbase : base ≤ w.heap.size)
    (h : ∀ (g c : Nat) (w' : World), Own enc sz E base w' (.slice (some ⟨g, 0, none⟩) (l.length + l2.length) c) (l ++ l2) → w.grownBy w' v.ownBlock → K (a.put o.dst (.slice (some ⟨g, 0, none⟩) (l.length + l2.length) c)) w') :
    if Region.wanted o (yielded ops a.tmps) = true then Oper.wp P o a w K Q else R := by
  obtain ⟨i, z, hi, hz, hsize, hbytes, hzs⟩ := el.inf
  obtain ⟨A, c, rfl, hc, hcm, hnil, hcell⟩ := hr
  obtain ⟨g2, q, rfl, hg2, hx'⟩ := hcell h0
  refine step_append_lies w hgd s x T ho base E i z sz bys el.und hi hz hsize hbytes hzs el.pos v l.length _ hs hown _ l2.length c (l2.flatMap enc) hx (flat_len el.len l2) ?_ ?_ h0 h63 hby hbase _ rfl ?_
  · intro j u hu
    obtain ⟨y, hy, hyu⟩ := flat_split el.len el.pos l2 j u hu
    have := hx' _ y hy _ u hyu
    rw [Nat.add_assoc, Nat.div_add_mod' j sz] at this
    unfold Addr.add
    split
    · rename_i h; subst h; exact this
    · exact this
  · intro u hu
    obtain ⟨y, _, hyu⟩ := List.mem_flatMap.1 hu
    exact el.one y u hyu
  · intro g cap w' h1 h2 _ _
    refine h g cap w' ?_ h2
    unfold Own
    rw [List.length_append, List.flatMap_append]
    exact h1
theorem Own.empty {W : World} {g : Nat} (h : W.heap[g]? = some (.cells #[] E)) (hb : base ≤ g) : Own enc sz E base W (.slice (some ⟨g, 0, none⟩) 0 0) ([] : List α) :=
  ⟨by simp, .inr ⟨g, 0, #[], rfl, hb, h, Nat.le_refl _, Nat.zero_le _, by simp, by simp⟩⟩
end
theorem heap_two1 (w : World) (a b : Obj) : ((w.drew.alloc a).alloc b).heap[w.heap.size]? = some a := (Below.heap_alloc _ _ _ (by simp)).trans (heap_alloc_new w.drew a)
theorem heap_two2 (w : World) (a b : Obj) : ((w.drew.alloc a).alloc b).heap[w.heap.size + 1]? = some b := by
  have := heap_alloc_new (w.drew.alloc a) b
  rwa [show (w.drew.alloc a).heap.size = w.heap.size + 1 by simp] at this
abbrev tmO' (t : Tm) : Obj := .cells #[.int .i64 t.op, .int .i64 t.many, .string ⟨t.name.toArray⟩, .string ⟨t.s.toArray⟩, .int .i64 t.n, .int .i64 t.c.kind, .int .i64 t.c.many, .string ⟨t.c.name.toArray⟩, .string ⟨t.c.s.toArray⟩, .bool t.c.neg, .int .i64 t.c.e] 37
theorem Tms.one {W : World} {g : Nat} {t : Tm} (h : W.heap[g]? = some (tmO' t)) : Tms W (.slice (some ⟨g, 0, none⟩) 1 1) [t] := by
  have hlt : g < W.heap.size := (Array.getElem?_eq_some_iff.1 h).1
  refine Row.mk (l := [t]) (c := 1) (Nat.le_refl _) (by decide) hlt (fun k x hk j u hu => ?_)
  have hk0 : k = 0 := by
    have := (List.getElem?_eq_some_iff.1 hk).1
    simp at this; omega
  subst hk0
  simp at hk; subst hk
  rw [Lib.cell_of_heap h]
  simpa [tmc] using hu
end Go.Proofs.YtmajkafoenfceaaGreatDoor

/-
  The document's own answers for filters: Parts.
-/
namespace Go.Proofs.YtmajkafoenfceaaGreatDoor
open Go.RowKit Np Rw Vp Up Qp Pw Fw

theorem ElemsF.aside {base : Nat} {W W' : World} {v : Value} {xs zs : List (Option Addr × Nat × Nat)} {L : List (List Tm)} (h : ElemsF base W zs L) (hv : Own slc 1 23 base W v xs) (hg : W.grownBy W' v.ownBlock) : ElemsF base W' zs L :=
  ⟨h.1, fun k z l hz hl => by
    refine World.ownsRow.kept (h.2 k z l hz hl) (row := v.ownBlock) hg ?_
    exact own_apart (h.2 k z l hz hl) hv (by decide)⟩
theorem drop_ks {t : Tr Tm} {pre post : List (Tr Tm)} (h : t.ks = pre ++ post) : (flat t).drop (1 + (flats pre).length) = flats post := by
  rw [flat_eq, h, flats_append, Nat.add_comm, List.drop_succ_cons, List.drop_left]
set_option maxRecDepth 100000 in
set_option maxHeartbeats 8000000 in
theorem refPartsL_any (v : Value) (t : Tr Tm) (w : World) (hv : Tms w v (flat t)) (hl : (flat t).length ≤ 60000) (ht : okT tmany t) :
    Calls Tryz.prog 22 #[v] w (GivesF w (t.ks.map fun k => flat (clrF k))) := by
  obtain ⟨g, o, c, rfl, hc, hcm, hg, hx⟩ := hv.opened (flat_pos t)
  have hmany : t.nd.many = t.ks.length := (okT_eq.1 ht).1
  have a1 : w.cell? ⟨g, o + 1, none⟩ = some (.int .i64 (t.ks.length : Nat)) := by
    have := (hx 0 t.nd (by rw [flat_eq]; rfl)).tm.c1
    rw [hmany] at this
    simpa using this
  have HA1 := Lib.hid a1
  have HV := Lib.hid hv
  have HKS := Lib.hid (okT_eq.1 ht).2
  have hkl : t.ks.length ≤ 60000 := by
    have h1 := flats_len t.ks
    rw [flat_eq] at hl
    simp at hl
    omega
  have hpos := flat_pos t
  have HDR : Hid (∀ pre post, t.ks = pre ++ post → (flat t).drop (1 + (flats pre).length) = flats post) := Lib.hid (fun pre post h => drop_ks h)
  have HX := Lib.hid hx
  clear hx hv hmany a1
  have HLL := Lib.hid hl
  unfold maxLen at hcm
  generalize hn : (flat t).length = n at *
  have HN := Lib.hid hn
  clear hn
  generalize hq : t.ks.length = q at *
  have HQ := Lib.hid hq
  clear hq
  have HO0 : Hid (Own slc 1 23 w.heap.size (w.alloc (.cells #[] 23)) (.slice (some ⟨w.heap.size, 0, none⟩) 0 0) []) := Lib.hid (Own.lit (l := []) slc_len w #[] (Nat.le_refl _) (Nat.zero_le _) rfl)
  go_enter Tryz.func22, Tryz.ntmps22
  go_wp2_with fail
  go_loopw [3, 4, 5] (fun ov iv kv wr => ∃ (pre post : List (Tr Tm)) (zs : List (Option Addr × Nat × Nat)), t.ks = pre ++ post ∧ kv = .int .i64 pre.length ∧ iv = .int .i64 (1 + (flats pre).length : Nat) ∧ Own slc 1 23 w.heap.size wr ov zs ∧ ElemsF w.heap.size wr zs (pre.map fun k => flat (clrF k)) ∧ Below w.heap.size w wr) (fun _ _ kv _ => q - (intOf kv).toNat)
  case atStart => exact ⟨[], t.ks, [], rfl, rfl, rfl, HO0.out, ⟨rfl, fun k z l h => by simp at h⟩, (Below.refl _ _).alloc (Nat.le_refl _) _⟩
  case round =>
    obtain ⟨pre, post, zs, hpp, rfl, rfl, hown, hels, hb⟩ := hrel
    have a2 := (hb.cell (p := ⟨g, o + 1, none⟩) hg).trans HA1.out
    have HO := Lib.hid hown
    have HE := Lib.hid hels
    have HB := Lib.hid hb
    have HP := Lib.hid hpp
    have hlen : pre.length + post.length = q := by rw [← HQ.out, hpp]; simp
    obtain ⟨Ao, co, rfl, -, -, -⟩ := hown.form
    clear hown hels hb hpp
    cases post with
    | nil =>
      simp only [List.length_nil, Nat.add_zero] at hlen
      have HF : Hid (pre = t.ks) := Lib.hid (by rw [HP.out]; simp)
      have hlt : ¬ (pre.length : Int) < q := by omega
      clear hlen
      go_wp2_with fail
      go_ret
      exact ⟨_, rfl, by have := HE.out; rw [HF.out] at this; exact this.fls (HO.out.row slc_len), HB.out⟩
    | cons u rest =>
      simp only [List.length_cons] at hlen
      have hdr := HDR.out pre (u :: rest) HP.out
      rw [flats_cons] at hdr
      have hoku : okT tmany u := by have := HKS.out; rw [HP.out, okTs_append, okTs_cons] at this; exact this.2.1
      have hnx := nxtF_at hdr hoku
      have hup := flat_pos u
      have hpl : 1 + (flats pre).length + (flat u).length ≤ n := by
        have h1 := congrArg List.length hdr
        rw [List.length_drop, HN.out, List.length_append] at h1
        omega
      have hlt : (pre.length : Int) < q := by omega
      generalize hi : 1 + (flats pre).length = i at *
      generalize hm : (flat u).length = m at *
      rw [HN.out] at hnx
      have HNX := Lib.hid hnx
      have HPC : Hid (∀ W, Below wr.heap.size wr W → Tms W (.slice (some ⟨g, o + i * 11, none⟩) m (c - i)) (flat u)) := Lib.hid (fun W hW => by
        have h0 : Tms W (.slice (some ⟨g, o, none⟩) (flat t).length c) (flat t) := by rw [HN.out]; exact (HV.out.below HB.out).below hW
        have h1 := h0.pc i m (c - i) (by rw [HN.out]; exact hpl) (by omega) (by omega)
        rwa [hdr, ← hm, List.take_left, hm] at h1)
      have HNE := Lib.hid (refNextT_any (.slice (some ⟨g, o, none⟩) n c) (flat t) i wr (HV.out.below HB.out) (by rw [HN.out]; omega) (by rw [HN.out]; omega))
      rw [HN.out, HNX.out] at HNE
      have hlc : i + m ≤ c := by omega
      clear hdr hoku hnx HNX
      go_wp2_with fail
      refine HNE.out.mono ?_
      rintro e w' ⟨rfl, rfl⟩
      have HO4 : Hid (OwnT wr.heap.size (wr.alloc (.cells #[] 37)) (.slice (some ⟨wr.heap.size, 0, none⟩) 0 0) []) := Lib.hid (Own.lit (l := []) tmc_len wr #[] (Nat.le_refl _) (Nat.zero_le _) rfl)
      have HR4 : Hid (Tms (wr.alloc (.cells #[] 37)) (.slice (some ⟨g, o + i * 11, none⟩) (i + m - i) (c - i)) (flat u)) := Lib.hid (by rw [show i + m - i = m by omega]; exact HPC.out _ ((Below.refl _ _).alloc (Nat.le_refl _) _))
      have hic : ¬ (i = c) := by omega
      have HMU := Lib.hid hm
      clear hm
      go_wp2_with (at_builtin; refine wpList_append_row (base := wr.heap.size) elTerm rfl _ _ rfl rfl HO4.out rfl HR4.out ?_ ?_ ?_ ?_)
      · rw [HMU.out]; unfold maxLen; simp only [List.length_nil]; omega
      · rw [HMU.out]; simp only [List.length_nil]; omega
      · simp
      intro A4 c4 w4 hown4 hg4 _
      have HB4 : Hid (Below wr.heap.size wr w4) := Lib.hid (((Below.refl _ _).alloc (Nat.le_refl _) _).trans (HO4.out.kept hg4 (by simp)))
      have HN4 : Hid (OwnT wr.heap.size w4 (.slice A4 m c4) (flat u)) := Lib.hid (by have h := hown4; simp only [HMU.out] at h; exact h)
      try simp only [HMU.out]
      clear hown4 hg4 HO4 HR4
      have HK0 : Hid ((flat u)[0]? = some u.nd) := Lib.hid (by rw [flat_eq]; rfl)
      obtain ⟨g4, rfl, HG4⟩ : ∃ g4, A4 = some ⟨g4, 0, none⟩ ∧ Hid (wr.heap.size ≤ g4 ∧ g4 < w4.heap.size ∧ m ≤ c4) := by
        obtain ⟨g', cap, hv, h1, h2⟩ := HN4.out.opened (by rw [HMU.out]; exact hup)
        injection hv with e1 _ e3
        exact ⟨g', e1, Lib.hid ⟨h1, h2, HN4.out.cap.2.1⟩⟩
      have htm : Tm11 w4 g4 0 u.nd := by
        have h : OwnT wr.heap.size w4 (.slice (some ⟨g4, 0, none⟩) (flat u).length c4) (flat u) := by rw [HMU.out]; exact HN4.out
        have h1 := fun j x (hj : (tmc u.nd)[j]? = some x) => Own.cell tmc_len (k := 0) (j := j) h HK0.out hj
        simp only [Nat.zero_mul, Nat.zero_add] at h1
        exact ⟨h1 0 _ rfl, h1 1 _ rfl, h1 2 _ rfl, h1 3 _ rfl, h1 4 _ rfl, h1 5 _ rfl, h1 6 _ rfl, h1 7 _ rfl, h1 8 _ rfl, h1 9 _ rfl, h1 10 _ rfl⟩
      obtain ⟨y0, y1, y2, y3, y4, y5, y6, y7, y8, y9, y10⟩ := htm
      simp only [Nat.zero_add] at y0 y1 y2 y3 y4 y5 y6 y7 y8 y9 y10
      have HTH4 : Hid (∀ ob : Obj, (w4.alloc ob).there g4 0 11) := Lib.hid (fun ob => by
        have h : OwnT wr.heap.size (w4.alloc ob) (.slice (some ⟨g4, 0, none⟩) (flat u).length c4) (flat u) := by rw [HMU.out]; exact HN4.out.alloc ob
        have := Own.there tmc_len h HK0.out
        simpa using this)
      have HPU4 : Hid (∀ ob : Obj, OwnT wr.heap.size ((w4.alloc ob).setCells g4 0 (tmc (noNm u.nd))) (.slice (some ⟨g4, 0, none⟩) m c4) (flat (clrF u))) := Lib.hid (fun ob => by
        have h : OwnT wr.heap.size (w4.alloc ob) (.slice (some ⟨g4, 0, none⟩) (flat u).length c4) (flat u) := by rw [HMU.out]; exact HN4.out.alloc ob
        have h2 := Own.puts (y := noNm u.nd) tmc_len h HK0.out
        rw [HMU.out, flat_eq u, List.set_cons_zero, ← flat_clrF u] at h2
        simpa using h2)
      have HBU4 : Hid (∀ ob : Obj, Below wr.heap.size wr ((w4.alloc ob).setCells g4 0 (tmc (noNm u.nd)))) := Lib.hid (fun ob => Below.setCells HG4.out.1 _ _ (HB4.out.alloc HB4.out.size ob))
      have hzc4 : 0 < c4 := Nat.lt_of_lt_of_le hup HG4.out.2.2
      go_upto_region 10 with fail
      go_upto_region 11 with (with_reducible refine wpList_store_term rfl _ _ rfl g4 0 (noNm u.nd) ?sx ?sy (HTH4.out _) ?sz)
      case sx => rfl
      case sy => rfl
      case sz =>
        have hn5 := HPU4.out (.cells #[.int .i64 u.nd.op, .int .i64 u.nd.many, .string ⟨#[]⟩, .string ⟨u.nd.s.toArray⟩, .int .i64 u.nd.n, .int .i64 u.nd.c.kind, .int .i64 u.nd.c.many, .string ⟨u.nd.c.name.toArray⟩, .string ⟨u.nd.c.s.toArray⟩, .bool u.nd.c.neg, .int .i64 u.nd.c.e] 37)
        have hb5 := HBU4.out (.cells #[.int .i64 u.nd.op, .int .i64 u.nd.many, .string ⟨#[]⟩, .string ⟨u.nd.s.toArray⟩, .int .i64 u.nd.n, .int .i64 u.nd.c.kind, .int .i64 u.nd.c.many, .string ⟨u.nd.c.name.toArray⟩, .string ⟨u.nd.c.s.toArray⟩, .bool u.nd.c.neg, .int .i64 u.nd.c.e] 37)
        clear y0 y1 y2 y3 y4 y5 y6 y7 y8 y9 y10 HTH4 HPU4 HBU4
        generalize (w4.alloc (.cells #[.int .i64 u.nd.op, .int .i64 u.nd.many, .string ⟨#[]⟩, .string ⟨u.nd.s.toArray⟩, .int .i64 u.nd.n, .int .i64 u.nd.c.kind, .int .i64 u.nd.c.many, .string ⟨u.nd.c.name.toArray⟩, .string ⟨u.nd.c.s.toArray⟩, .bool u.nd.c.neg, .int .i64 u.nd.c.e] 37)).setCells g4 0 (tmc (noNm u.nd)) = w5 at hn5 hb5 ⊢
        have HO5 := Lib.hid (HO.out.below hb5)
        have HE5 := Lib.hid (ElemsF.below HE.out hb5)
        have HN5 := Lib.hid (hn5.mono HB.out.size)
        have HB5 := Lib.hid (HB.out.trans (hb5.mono HB.out.size))
        have HZL : Hid (zs.length + 1 ≤ 60001) := Lib.hid (by have := HE.out.1; rw [List.length_map] at this; omega)
        have HIX : Hid (1 + (flats (pre ++ [u])).length = i + m) := Lib.hid (by rw [flats_append, flats_cons]; simp; rw [HMU.out]; omega)
        clear hn5 hb5 HN4 HB4 HG4 a2
        go_wp2_with (at_builtin; refine wpList_append_row (base := w.heap.size) elFilter rfl _ _ rfl rfl (HO5.out.alloc _) rfl (Row.lit slc_len w5 23 #[.slice (some ⟨g4, 0, none⟩) m c4] [(some ⟨g4, 0, none⟩, m, c4)] (by show 1 ≤ maxLen; decide) rfl) ?_ ?_ ?_ ?_)
        · have := HZL.out; unfold maxLen; simp only [List.length_singleton]; omega
        · have := HZL.out; simp only [List.length_singleton]; omega
        · have := HB5.out.size; simp; omega
        intro A6 c6 w6 hown6 hg6 _
        have ha5 := (Below.refl w5.heap.size w5).alloc (Nat.le_refl _) (.cells #[.slice (some ⟨g4, 0, none⟩) m c4] 23)
        have HB6 : Hid (Below w.heap.size w w6) := Lib.hid ((HB5.out.trans (ha5.mono HB5.out.size)).trans ((HO5.out.alloc _).kept hg6 (by have := HB5.out.size; simp; omega)))
        have HE6 : Hid (ElemsF w.heap.size w6 (zs ++ [(some ⟨g4, 0, none⟩, m, c4)]) ((pre ++ [u]).map fun k => flat (clrF k))) := Lib.hid (by
          rw [List.map_append]
          exact ElemsF.aside (ElemsF.below (HE5.out.snoc (z := (some ⟨g4, 0, none⟩, m, c4)) HN5.out) ha5) (HO5.out.alloc _) hg6)
        have HO6 := Lib.hid hown6
        clear hown6 hg6 ha5
        go_wp2_with fail
        refine ⟨⟨pre ++ [u], rest, zs ++ [(some ⟨g4, 0, none⟩, m, c4)], by rw [HP.out]; simp, by simp, by rw [HIX.out]; rfl, ?_, HE6.out, HB6.out⟩, ?_⟩
        · exact HO6.out
        · simp [intOf]; omega
end Go.Proofs.YtmajkafoenfceaaGreatDoor

/-
  The document's own answers for filters: Made (without names), Pipe.
-/
namespace Go.Proofs.YtmajkafoenfceaaGreatDoor
open Go.RowKit Np Rw Vp Up Qp Pw Fw

/-- A part that has no name is a filter of its own as it stands. -/
theorem clrF_self {t : Tr Tm} (h : t.nd.name = []) : clrF t = t := by
  obtain ⟨⟨o, m, nm, s, n, c⟩, ks⟩ := t
  simp at h
  subst h; rfl
def manyT (t : Tm) (k : Nat) : Tm := { t with many := k }
set_option maxRecDepth 100000 in
set_option maxHeartbeats 4000000 in
theorem refMade_any (t : Tm) (vl : Value) (L : List (List Tm)) (w : World) (hv : Fls w vl L) (hb1 : L.length ≤ 60000) (hb2 : (L.map List.length).sum ≤ 131072) :
    Calls Tryz.prog 35 #[tma t, .slice none 0 0, vl] w (OwnsT w (manyT t L.length :: L.flatten)) := by
  obtain ⟨us, hul, hu, hur⟩ := hv
  obtain ⟨A, c, rfl, -, -, -, H⟩ := hu
  have HUL := Lib.hid hul
  have HU := Lib.hid hur
  have HH := Lib.hid H
  clear hur H
  rw [← hul] at hb1 ⊢
  clear hul
  generalize hn : us.length = n at *
  have HN := Lib.hid hn; clear hn
  have HB2 := Lib.hid hb2
  clear hb2
  have hba := (Below.refl w.heap.size w).alloc (Nat.le_refl _) (tmO' (manyT t n))
  have HBA := Lib.hid hba
  have HO0 : Hid (OwnT w.heap.size ((w.alloc (tmO' (manyT t n))).alloc (tmO' (manyT t n))) (.slice (some ⟨w.heap.size + 1, 0, none⟩) 1 1) [manyT t n]) := Lib.hid (by
    have h := Own.lit (base := w.heap.size) (l := [manyT t n]) (E := 37) tmc_len (w.alloc (tmO' (manyT t n))) #[.int .i64 (manyT t n).op, .int .i64 (manyT t n).many, .string ⟨(manyT t n).name.toArray⟩, .string ⟨(manyT t n).s.toArray⟩, .int .i64 (manyT t n).n, .int .i64 (manyT t n).c.kind, .int .i64 (manyT t n).c.many, .string ⟨(manyT t n).c.name.toArray⟩, .string ⟨(manyT t n).c.s.toArray⟩, .bool (manyT t n).c.neg, .int .i64 (manyT t n).c.e] (by simp) (by show 1 ≤ maxLen; decide) rfl
    rw [show (w.alloc (tmO' (manyT t n))).heap.size = w.heap.size + 1 by simp] at h
    exact h)
  have HB0 : Hid (Below w.heap.size w ((w.alloc (tmO' (manyT t n))).alloc (tmO' (manyT t n)))) := Lib.hid (hba.alloc hba.size _)
  clear hba
  go_enter Tryz.func35, Tryz.ntmps35
  go_wp2_with fail
  go_loopw [7, 8] (fun vv i wr => ∃ k : Nat, k ≤ n ∧ i = .int .i64 k ∧ OwnT w.heap.size wr vv (manyT t n :: (L.take k).flatten) ∧ Below w.heap.size w wr) (fun _ i _ => n - (intOf i).toNat)
  case atStart => exact ⟨0, Nat.zero_le _, rfl, HO0.out, HB0.out⟩
  case round =>
    obtain ⟨j, hj, rfl, hown, hbw⟩ := hrel
    have HO := Lib.hid hown
    have HBW := Lib.hid hbw
    obtain ⟨Ao, co, rfl, -, -, -⟩ := hown.form
    by_cases hlt2 : j < n
    · obtain ⟨g, o, rfl, hg, hx⟩ := HH.out (by omega)
      obtain ⟨x, hxk⟩ : ∃ a, us[j]? = some a := ⟨_, List.getElem?_eq_getElem (by rw [HN.out]; exact hlt2)⟩
      obtain ⟨a, ha⟩ : ∃ a, L[j]? = some a := ⟨_, List.getElem?_eq_getElem (by rw [← HUL.out]; exact hlt2)⟩
      have a0 := (hbw.cell (p := ⟨g, o + j, none⟩) hg).trans (hx j x hxk).one
      have HRA : Hid (Tms wr x a) := Lib.hid ((HU.out j x a hxk ha).below hbw)
      have HS : Hid (manyT t n :: (L.take (j + 1)).flatten = (manyT t n :: (L.take j).flatten) ++ a) := Lib.hid (by rw [List.take_add_one, ha]; simp)
      have HLN : Hid ((manyT t n :: (L.take j).flatten).length + a.length ≤ 131073) := Lib.hid (by
        have h1 := sum_takeG ha
        have h2 := sum_takeG_le L (j + 1)
        have h3 := HB2.out
        rw [List.length_cons, List.length_flatten]; omega)
      clear ha hxk hx hown hbw
      generalize hq0 : (manyT t n :: (L.take j).flatten).length = q0 at *
      have HQ0 := Lib.hid hq0
      clear hq0
      go_wp2_with (at_builtin; refine wpList_append_row (base := w.heap.size) elTerm rfl _ _ rfl rfl HO.out rfl HRA.out ?_ ?_ ?_ ?_)
      · have := HLN.out; rw [HQ0.out]; unfold maxLen; omega
      · have := HLN.out; rw [HQ0.out]; omega
      · exact HBW.out.size
      · intro A' c' w2 hown2 hg2 _
        have HO2 := Lib.hid hown2
        have HG2 := Lib.hid hg2
        clear hown2 hg2 a0
        generalize ((manyT t n :: (L.take j).flatten) ++ a).length = q2 at HO2 ⊢
        go_wp2_with fail
        go_roundw
        case rel => exact ⟨j + 1, by omega, by go_num, by rw [HS.out]; exact HO2.out, HBW.out.trans (HO.out.kept HG2.out HBW.out.size)⟩
        case measure => simp [intOf]; omega
    · have HE : Hid (L.take j = L) := Lib.hid (List.take_of_length_le (by rw [← HUL.out]; omega))
      clear hown hbw
      generalize (manyT t n :: (L.take j).flatten).length = q0 at *
      go_wp2_with fail
      go_ret
      exact ⟨_, rfl, by have := HO.out; rwa [HE.out] at this, HBW.out⟩
theorem fls_two (W : World) (n : Nat) (hn : W.heap.size = n) (E : TypeId) (a b : Value) (l1 l2 : List Tm) (h1 : Tms W a l1) (h2 : Tms W b l2) : Fls (W.alloc (.cells #[a, b] E)) (.slice (some ⟨n, 0, none⟩) 2 2) [l1, l2] := by
  subst hn
  have hb : Below W.heap.size W (W.alloc (.cells #[a, b] E)) := (Below.refl _ _).alloc (Nat.le_refl _) _
  refine ⟨[a, b], rfl, Row.lit vac_len W E _ [a, b] (by unfold maxLen; simp) rfl, fun k x l hx hk => ?_⟩
  match k, hx, hk with
  | 0, hx, hk => simp at hx hk; subst hx hk; exact h1.below hb
  | 1, hx, hk => simp at hx hk; subst hx hk; exact h2.below hb
  | k + 2, hx, hk => simp at hx
def pipe0 : Tm := ⟨4, 0, [], [], 0, zeroC⟩
theorem manyT_pipe : manyT pipe0 2 = pipeTm := rfl
/-- Two filters in a pipe. -/
theorem refMade_two (vl a b : Value) (l1 l2 : List Tm) (n : Nat) (w : World) (hn : w.heap.size = n) (h1 : Tms w a l1) (h2 : Tms w b l2) (hl1 : l1.length ≤ 2000) (hl2 : l2.length ≤ 2000) (hvl : vl = .slice (some ⟨n, 0, none⟩) 2 2) :
    Calls Tryz.prog 35 #[tma pipe0, .slice none 0 0, vl] (w.alloc (.cells #[a, b] 23)) fun e w' => ∃ v', e = .returned v' ∧ OwnT w.heap.size w' v' (pipeTm :: (l1 ++ l2)) ∧ Below w.heap.size w w' := by
  have hb := (Below.refl w.heap.size w).alloc (Nat.le_refl _) (.cells #[a, b] 23)
  subst hvl
  refine (refMade_any pipe0 _ [l1, l2] _ (fls_two w n hn 23 a b l1 l2 h1 h2) (by simp) (by simp; omega)).mono ?_
  rintro e w' ⟨v', rfl, ho, hb'⟩
  refine ⟨v', rfl, ?_, hb.trans (hb'.mono hb.size)⟩
  have := ho.mono hb.size
  simpa [manyT_pipe] using this
set_option maxRecDepth 100000 in
set_option maxHeartbeats 8000000 in
theorem refPipe_any : ∀ (N : Nat) (t u : Tr Tm) (vf vg : Value) (w : World), (flat t).length ≤ N → Flt t → Tms w vf (flat t) → Tms w vg (flat u) → (flat t).length ≤ 100 → (flat u).length ≤ 100 →
    Calls Tryz.prog 27 #[vf, vg] w (OwnsT w (flat (pipeT t u)))
  | 0, t, u, vf, vg, w, hN, ht, hf, hg, hl1, hl2 => absurd (flat_pos t) (by omega)
  | N + 1, t, u, vf, vg, w, hN, ht, hf, hg, hl1, hl2 => by
    have HF := Lib.hid hf
    have HG := Lib.hid hg
    obtain ⟨g, o, c, rfl, hc, hcm, hgl, hx⟩ := hf.opened (flat_pos t)
    obtain ⟨G2, c2, rfl, -⟩ := hg
    have a0 := (hx 0 t.nd (by rw [flat_eq]; rfl)).tm.c0
    rw [Nat.zero_mul, Nat.add_zero] at a0
    have hp := flat_pos t
    clear hf hx
    by_cases h4 : t.nd.op = 4
    · obtain ⟨k, x, he, hk4⟩ := pipe_form ht.ok ht.rt h4
      rw [h4] at a0
      have HP := Lib.hid (refPartsL_any _ t w HF.out (by omega) ht.ok)
      have hkids := flt_kids ht.ok ht.rt
      have hks : t.ks = [k, x] := by rw [he]; rfl
      rw [hks] at HP hkids
      obtain ⟨x1, x2, x3, x4, -⟩ := hkids x (by simp)
      obtain ⟨k1, k2, k3, k4, -⟩ := hkids k (by simp)
      have hx8 := x4 (by omega)
      have hk8 := k4 (by omega)
      have hfx : Flt x := ⟨x1, x2, hx8, by rw [x3, h4]; rfl⟩
      have hcl : [k, x].map (fun k => flat (clrF k)) = [flat k, flat x] := by simp [clrF_self hx8, clrF_self hk8]
      rw [hcl] at HP
      have hlen : (flat t).length = 1 + (flat k).length + (flat x).length := by rw [he, flat_mk]; simp; omega
      have HPT : Hid (flat (pipeT t u) = pipeTm :: (flat k ++ flat (pipeT x u))) := Lib.hid (by rw [he, pipeT, if_pos (by rfl), flat_mk]; simp)
      have hpl := pipe_len x u hfx
      have HIH := Lib.hid (fun (v : Value) (W : World) (hW : Below w.heap.size w W) (hv : Tms W v (flat x)) => refPipe_any N x u v (.slice G2 (flat u).length c2) W (by omega) hfx hv (HG.out.below hW) (by omega) hl2)
      have HL1 : Hid ((flat k).length ≤ 2000 ∧ (flat (pipeT x u)).length ≤ 2000) := Lib.hid ⟨by omega, by omega⟩
      clear hkids hcl hks he x1 x2 x3 x4 k1 k2 k3 k4 hpl hlen
      generalize (flat t).length = M at *
      generalize (flat u).length = M2 at *
      go_enter Tryz.func27, Tryz.ntmps27
      go_wp2_with fail
      refine HP.out.mono ?_
      rintro e w1 ⟨v1, rfl, hfl, hb1⟩
      obtain ⟨us, hul, hu, hur⟩ := hfl
      obtain ⟨g1, o1, c1, rfl, hc1, hcm1, hg1, hx1⟩ := hu.opened (by simp at hul; omega)
      have hul2 : us.length = 2 := by simpa using hul
      obtain ⟨z0, hz0⟩ : ∃ z, us[0]? = some z := ⟨_, List.getElem?_eq_getElem (by omega)⟩
      obtain ⟨z1, hz1⟩ : ∃ z, us[1]? = some z := ⟨_, List.getElem?_eq_getElem (by omega)⟩
      have b0 := (hx1 0 z0 hz0).one
      have b1 := (hx1 1 z1 hz1).one
      have HZ0 := Lib.hid (hur 0 z0 (flat k) hz0 rfl)
      have HZ1 := Lib.hid (hur 1 z1 (flat x) hz1 rfl)
      have HB1 := Lib.hid hb1
      obtain ⟨Z0, n0, d0, rfl⟩ : ∃ A n d, z0 = .slice A n d := by obtain ⟨A, d, h, -⟩ := HZ0.out; exact ⟨A, _, d, h⟩
      rw [hul2] at hc1 ⊢
      clear hul hu hur hx1 hz0 hz1 hul2 a0
      have HB0 := Lib.hid b0
      have HB1c := Lib.hid b1
      clear b0 b1
      go_wp2_with fail
      refine wp_region_held_drew (S := fun w' => Below w1.heap.size w1 w') (by kernel_rfl) ((Below.refl _ _).drew) (fun hH => ?_)
      refine rtk 0 (tma pipe0) ?_ ?_
      · intro w' hSw; go_simp; simp [pipe0, zeroC]
      try simp only [List.set_cons_succ, List.set_cons_zero]
      refine rtk 1 (.slice (some ⟨g1, o1, none⟩) 2 c1) ?_ ?_
      · intro w' hSw; go_simp
      try simp only [List.set_cons_succ, List.set_cons_zero]
      refine rtk 2 (.pointer (some ⟨g1, o1, none⟩)) ?_ ?_
      · intro w' hSw; go_simp
      try simp only [List.set_cons_succ, List.set_cons_zero]
      refine rtk 3 (.slice Z0 n0 d0) ?_ ?_
      · intro w' hSw; have hb0 := (hSw.cell (p := ⟨g1, o1, none⟩) hg1).trans HB0.out; go_simp
      try simp only [List.set_cons_succ, List.set_cons_zero]
      refine rtk 4 (.slice (some ⟨g1, o1, none⟩) 2 c1) ?_ ?_
      · intro w' hSw; go_simp
      try simp only [List.set_cons_succ, List.set_cons_zero]
      refine rtk 5 (.pointer (some ⟨g1, o1 + 1, none⟩)) ?_ ?_
      · intro w' hSw; go_simp
      try simp only [List.set_cons_succ, List.set_cons_zero]
      refine rtk 6 (z1) ?_ ?_
      · intro w' hSw; have hb1 := (hSw.cell (p := ⟨g1, o1 + 1, none⟩) hg1).trans HB1c.out; go_simp
      try simp only [List.set_cons_succ, List.set_cons_zero]
      refine rtk 7 (.slice G2 M2 c2) ?_ ?_
      · intro w' hSw; go_simp
      try simp only [List.set_cons_succ, List.set_cons_zero]
      refine wpAnyH_ready (rs := [8]) (by kernel_rfl) (by simp) ?_
      refine AllReadyH.cons rfl (fun K8 hK8 => ?_) AllReadyH.nil
      go_simp
      go_at_call 27
      refine (HIH.out z1 _ (HB1.out.trans (hH.mono HB1.out.size)) (HZ1.out.below hH)).mono ?_
      rintro e w2 ⟨v2, rfl, ho2, hb2⟩
      have hb2' := hH.trans (hb2.mono hH.size)
      have HR2 := Lib.hid (ho2.row tmc_len)
      obtain ⟨Z2, n2, d2, rfl⟩ : ∃ A n d, v2 = .slice A n d := by obtain ⟨A, d, h, -⟩ := HR2.out; exact ⟨A, _, d, h⟩
      clear ho2
      go_wp2_with fail
      refine hK8.out _ _ hb2' (fun hH8 => ?_)
      clear hK8 K8
      try simp only [List.set_cons_succ, List.set_cons_zero]
      refine wpAnyH_ready (rs := [9]) (by kernel_rfl) (by simp) ?_
      refine AllReadyH.cons rfl (fun K9 hK9 => ?_) AllReadyH.nil
      go_simp
      have ha9 := (Below.refl w2.heap.size w2).alloc (Nat.le_refl _) (.cells #[.slice Z0 n0 d0, .slice Z2 n2 d2] 23)
      refine hK9.out _ _ (hH8.trans (ha9.mono hH8.size)) (fun hH9 => ?_)
      clear hK9 K9
      try simp only [List.set_cons_succ, List.set_cons_zero]
      refine wpAnyH_ready (rs := [10]) (by kernel_rfl) (by simp) ?_
      refine AllReadyH.cons rfl (fun K10 hK10 => ?_) AllReadyH.nil
      go_simp
      go_at_call 35
      refine (refMade_two _ (.slice Z0 n0 d0) (.slice Z2 n2 d2) _ _ w2.heap.size w2 rfl (HZ0.out.below hH8) HR2.out HL1.out.1 HL1.out.2 rfl).mono ?_
      rintro e w3 ⟨v3, rfl, ho3, hb3⟩
      have HO3 := Lib.hid (ho3.mono (base' := w.heap.size) ((HB1.out.trans (hH8.mono HB1.out.size)).size))
      have hb3' := hH8.trans (hb3.mono hH8.size)
      clear ho3
      go_wp2_with fail
      refine hK10.out _ _ hb3' (fun hH10 => ?_)
      clear hK10 K10
      try simp only [List.set_cons_succ, List.set_cons_zero]
      refine wpAnyH_ready (rs := [11]) (by kernel_rfl) (by simp) ?_
      refine AllReadyH.cons rfl (fun K11 hK11 => ?_) AllReadyH.nil
      go_simp
      refine hK11.out _ _ hH10 (fun hH11 => ?_)
      clear hK11 K11
      try simp only [List.set_cons_succ, List.set_cons_zero]
      refine wpAnyH_done (by kernel_rfl) ?_ _
      go_wp2_with fail
      go_ret
      exact ⟨_, rfl, by rw [HPT.out]; exact HO3.out, HB1.out.trans (hH11.mono HB1.out.size)⟩
    · have HPT : Hid (flat (pipeT t u) = pipeTm :: (flat t ++ flat u)) := Lib.hid (by rw [pipeT_neg h4, flat_mk]; simp)
      have e4 : (t.nd.op == 4) = false := by simp [h4]
      have HL1 : Hid ((flat t).length ≤ 2000 ∧ (flat u).length ≤ 2000) := Lib.hid ⟨by omega, by omega⟩
      have HM := Lib.hid (refMade_two (.slice (some ⟨w.heap.size, 0, none⟩) 2 2) (.slice (some ⟨g, o, none⟩) (flat t).length c) (.slice G2 (flat u).length c2) (flat t) (flat u) w.heap.size w rfl HF.out HG.out HL1.out.1 HL1.out.2 rfl)
      clear h4
      generalize (flat t).length = M at *
      generalize (flat u).length = M2 at *
      go_enter Tryz.func27, Tryz.ntmps27
      go_wp2_with fail
      refine HM.out.mono ?_
      rintro e w3 ⟨v3, rfl, ho3, hb3⟩
      go_wp2_with fail
      go_ret
      exact ⟨_, rfl, by rw [HPT.out]; exact ho3, hb3⟩
end Go.Proofs.YtmajkafoenfceaaGreatDoor

/-
  The walk of TermPipes: it answers true.
-/
namespace Go.Proofs.YtmajkafoenfceaaGreatDoor
open Go.RowKit Np Rw Vp Up Qp Tp Pw Fw

set_option maxRecDepth 100000 in
set_option maxHeartbeats 8000000 in
theorem termPipes_any (v1 v2 : Value) (l1 l2 : List Tm) (w : World) (h1 : Tms w v1 l1) (h2 : Tms w v2 l2) (k1 : HeldF l1) (k2 : HeldF l2) (hT : Fv w) :
    Calls Tryz.prog 4 #[v1, v2] w fun e w' => e = .returned (.bool true) ∧ Below w.heap.size w w' := by
  have HT := Lib.hid hT
  have H1 := Lib.hid h1
  have H2 := Lib.hid h2
  have HAL : Hid (∀ W, Below w.heap.size w W → Calls Tryz.prog 16 #[] W fun e w' => e = .returned (.bool true) ∧ Below W.heap.size W w') := Lib.hid (fun W hW => falive_any W (HT.out.below hW))
  have HF1 := Lib.hid (fun (W : World) (hW : Below w.heap.size w W) => refFewF_any v1 l1 30 W (h1.below hW) (by decide) k1)
  have HF2 := Lib.hid (fun (W : World) (hW : Below w.heap.size w W) => refFewF_any v2 l2 30 W (h2.below hW) (by decide) k2)
  obtain ⟨A1, c1, rfl⟩ : ∃ (A : Option Addr) (c : Nat), v1 = .slice A l1.length c := by obtain ⟨A, c, h, -⟩ := h1; exact ⟨A, c, h⟩
  obtain ⟨A2, c2, rfl⟩ : ∃ (A : Option Addr) (c : Nat), v2 = .slice A l2.length c := by obtain ⟨A, c, h, -⟩ := h2; exact ⟨A, c, h⟩
  have hb0 := Below.refl w.heap.size w
  clear h1 h2 hT
  go_enter Tryz.func4, Tryz.ntmps4
  cases hf1 : fewF 30 l1
  · rw [hf1] at HF1
    go_wp2_with fail
    refine (HF1.out _ hb0).mono ?_
    rintro e w1 ⟨rfl, hb1⟩
    go_wp2_with fail
    refine (HAL.out _ hb1).mono ?_
    rintro e w2 ⟨rfl, hb2⟩
    go_wp2_with fail
    go_ret
    exact ⟨rfl, hb1.trans (hb2.mono hb1.size)⟩
  · rw [hf1] at HF1
    cases hf2 : fewF 30 l2
    · rw [hf2] at HF2
      go_wp2_with fail
      refine (HF1.out _ hb0).mono ?_
      rintro e w1 ⟨rfl, hb1⟩
      go_wp2_with fail
      refine (HF2.out _ hb1).mono ?_
      rintro e w2 ⟨rfl, hb2'⟩
      have hb2 := hb1.trans (hb2'.mono hb1.size)
      go_wp2_with fail
      refine (HAL.out _ hb2).mono ?_
      rintro e w3 ⟨rfl, hb3⟩
      go_wp2_with fail
      go_ret
      exact ⟨rfl, hb2.trans (hb3.mono hb2.size)⟩
    · rw [hf2] at HF2
      obtain ⟨t1, ft1, e1, n1, s1⟩ := few_flt hf1
      obtain ⟨t2, ft2, e2, n2, s2⟩ := few_flt hf2
      have E1 := Lib.hid e1
      have E2 := Lib.hid e2
      clear e1 e2 hf1 hf2 s1 s2 ft2
      go_wp2_with fail
      refine (HF1.out _ hb0).mono ?_
      rintro e w1 ⟨rfl, hb1⟩
      go_wp2_with fail
      refine (HF2.out _ hb1).mono ?_
      rintro e w2 ⟨rfl, hb2'⟩
      have hb2 := hb1.trans (hb2'.mono hb1.size)
      clear hb2'
      go_wp2_with fail
      refine (HAL.out _ hb2).mono ?_
      rintro e w3 ⟨rfl, hb3'⟩
      have hb3 := hb2.trans (hb3'.mono hb2.size)
      clear hb3'
      go_wp2_with fail
      refine (tpipe_any _ _ l1 l2 t1 t2 w3 (H1.out.below hb3) (H2.out.below hb3) (by omega) (by omega) E1.out E2.out ft1).mono ?_
      rintro e w4 ⟨v4, rfl, ho4, hb4'⟩
      have hb4 := hb3.trans (hb4'.mono hb3.size)
      have HP4 : Hid (Tms w4 v4 (flat (pipeT t1 t2))) := Lib.hid (Own.row tmc_len ho4)
      obtain ⟨A4, N4, c4, rfl⟩ : ∃ (A : Option Addr) (n c : Nat), v4 = .slice A n c := by obtain ⟨A, c, h, -⟩ := HP4.out; exact ⟨A, _, c, h⟩
      clear ho4 hb4'
      have HRP := Lib.hid (refPipe_any 30 t1 t2 (.slice A1 l1.length c1) (.slice A2 l2.length c2) w4 (by rw [← E1.out]; exact n1) ft1 (by rw [← E1.out]; exact H1.out.below hb4) (by rw [← E2.out]; exact H2.out.below hb4) (by rw [← E1.out]; omega) (by rw [← E2.out]; omega))
      go_wp2_with fail
      refine HRP.out.mono ?_
      rintro e w5 ⟨v5, rfl, ho5, hb5'⟩
      have hb5 := hb4.trans (hb5'.mono hb4.size)
      have HP5 := Lib.hid (HP4.out.below hb5')
      have HR5 : Hid (Tms w5 v5 (flat (pipeT t1 t2))) := Lib.hid (Own.row tmc_len ho5)
      obtain ⟨A5, N5, c5, rfl⟩ : ∃ (A : Option Addr) (n c : Nat), v5 = .slice A n c := by obtain ⟨A, c, h, -⟩ := HR5.out; exact ⟨A, _, c, h⟩
      clear ho5 hb5'
      go_wp2_with fail
      refine (refSameT_any _ _ _ _ w5 HP5.out HR5.out).mono ?_
      rintro e w6 ⟨rfl, hb6⟩
      rw [show decide (flat (pipeT t1 t2) = flat (pipeT t1 t2)) = true by simp]
      go_wp2_with fail
      go_ret
      exact ⟨rfl, hb5.trans (hb6.mono hb5.size)⟩
end Go.Proofs.YtmajkafoenfceaaGreatDoor

/-
  The statement TermPipes holds: called with any two filters, whatever lies in memory, it returns true, and each argument reads as it read before. Conditions: the listed variables of the library (two tables of bits, one of powers of ten, two of UTF-8, strconv's two errors) read as the program's text lays them (the tie is given).
-/
namespace Go.Proofs.YtmajkafoenfceaaGreatDoor
open Go.ChangeShapes Go.WideShapes Go.ChangeAt Go.RowKit Go.ChangeMaps Pw

set_option maxRecDepth 100000 in
theorem termPipes_lifted (os : Os) (started : os.Started) (H : Type) (enc : TypeId × Value → H) :
    ReturnsInHanded {} Tryz.checked os 4 .any (fun w args => (Rows.termPipesSpec.pre enc Tryz.prog Tryz.f4 [] false w args ∧ laidMetH Tryz.prog seatLaid w) ∧ sizedMet enc Tryz.prog Tryz.f4 (OpenSpec.ofChange Rows.termPipesSpec) false w args)
      (Rows.termPipesSpec.post enc Tryz.prog Tryz.f4 false true false false) := by
  refine returnsInHanded_of_change_and (C := Tryz.checked) (X := fun w _ => laidMetH Tryz.prog seatLaid w) (fun _ _ _ hh h => h.of_heap hh) ownKn started (by kernel_rfl) Tryz.func4
    (ChangeSpec.witness_shaped (enc := enc) (C := Tryz.checked) (os := os) (X := fun w _ => laidMetH Tryz.prog seatLaid w) false (World.laidAll Tryz.prog os seatLaid)
      #[.slice none 0 0, .slice none 0 0] 8 (World.laidAll_os _ _ _)
      (World.shaped_of_ZipB (by kernel_rfl) (by kernel_rfl)) (by kernel_rfl) (by kernel_rfl) (by kernel_rfl) (laid_met os _)) ?_
  intro W base args ds gs before hval0 hW _ hwt0 hL _
  have hval : ∀ (j : Nat) t v, Tryz.f4.params[j]? = some t → args[j]? = some v → Value.okWide Tryz.prog W .any base t v := hval0
  have hW' := hW
  obtain ⟨p, q, hA0, hV, rfl, _, _⟩ := hW
  have hA : DataW.TrodAll enc Tryz.prog W 0 (fun _ => true) true Tryz.f4.params.toList args.toList ds p := hA0
  have hwt : (DataW.weightsEach Tryz.prog (Tryz.f4.params.toList ++ Rows.termPipesSpec.plain.varTypes Tryz.prog) (ds ++ gs)).all (· ≤ reachBytes) = true := hwt0
  rw [Tryz.params4] at hA hval
  obtain ⟨v0, v1, d0, d1, p0, p1, rfl, rfl, rfl, h0, h1⟩ := trodAll_two hA
  obtain ⟨rfl, rfl⟩ := trodVars_none hV
  obtain ⟨p0, hp0, hs0⟩ := open_filter (base := 0) (sp := fun _ => true) (held := true) (hval 0 _ v0 rfl rfl) h0
  obtain ⟨p1, hp1, hs1⟩ := open_filter (base := 0) (sp := fun _ => true) (held := true) (hval 1 _ v1 rfl rfl) h1
  refine (termPipes_any v0 v1 p0 p1 W hp0 hp1 hs0 hs1 (fv_of_laid hL)).mono fun e W' ⟨he, hb⟩ => ?_
  subst he
  exact ⟨_, rfl, law_post (tb := 4) laidOut hW' rfl Tryz.underlying4 (by kernel_rfl) rfl (by
    rw [Tryz.params4]
    intro t ht
    have hall : ([23, 23].all fun t => Tryz.prog.readableRec t && decide (t < Tryz.prog.types.size)) = true := by kernel_rfl
    obtain ⟨h1, h2⟩ := Bool.and_eq_true_iff.1 (List.all_eq_true.1 hall t ht)
    exact ⟨h1, of_decide_eq_true h2⟩) hb⟩

end Go.Proofs.YtmajkafoenfceaaGreatDoor
