/-
  Joined: FwJ, FwK, FwU.
-/
import Derived.Test.YtmajkafoenfceaaGreatDoorTermPipeJ9
import Derived.Test.YtmajkafoenfceaaGreatDoorTermPipeJ8
import Derived.StillTailTactics
import Derived.Test.YtmajkafoenfceaaGreatDoorTermPipeJ6

/-
  What term's begin, within and pass answer: holders, each with its map of names.
-/
namespace Go.Proofs.YtmajkafoenfceaaGreatDoor
open Go.RowKit Go.Maps Np Rw Vp Pw Fw

abbrev OwnHp (base : Nat) (w : World) (v : Value) (l : List Hp) : Prop := Own hpc 3 71 base w v l
theorem fholder_info : (Tryz.prog.info? 71).map (fun i => (i.zero, i.size, i.bytes)) = some (some (.agg #[.int .i64 0, .int .i64 0, .map none]), 3, 24) := by kernel_rfl
theorem elHp : Elem Tryz.prog 67 71 hpc 3 24 := by
  obtain ⟨i, hi, hz0, hz1, hz2⟩ := info_parts fholder_info
  refine ⟨Tryz.underlying67, ⟨i, _, hi, hz0, hz1, hz2, rfl⟩, by decide, hpc_len, fun n u hu => ?_⟩
  simp only [hpc, List.mem_cons, List.not_mem_nil, or_false] at hu
  rcases hu with rfl | rfl | rfl <;> rfl
/-- All maps are what they should be, each in a block of its own, above a bound. -/
structure HMs (base : Nat) (w : World) (st : List Hp) : Prop where
  maps : ∀ x ∈ st, HMap w x
  high : ∀ x ∈ st, ∀ m, x.b = some m → base ≤ m
  apart : (st.filterMap Hp.b).Nodup
theorem HMs.below {base : Nat} {w w' : World} {st : List Hp} (h : HMs base w st) (hb : Below w.heap.size w w') : HMs base w' st := ⟨fun x hx => (h.maps x hx).below hb, h.high, h.apart⟩
theorem HMap.same {w w' : World} {x : Hp} (h : HMap w x) (hk : ∀ m, x.b = some m → w'.heap[m]? = w.heap[m]?) : HMap w' x := by
  unfold HMap at *
  split
  · rename_i h8
    rw [if_pos h8] at h
    obtain ⟨m, h1, h2⟩ := h
    exact ⟨m, h1, h2.same (hk m h1)⟩
  · rename_i h8
    rwa [if_neg h8] at h
theorem HMap.lt {w : World} {x : Hp} (h : HMap w x) {m : Nat} (hm : x.b = some m) : m < w.heap.size := by
  unfold HMap at h
  split at h
  · obtain ⟨m', h1, h2⟩ := h
    rw [hm] at h1
    injection h1 with h1
    subst h1
    exact h2.lt
  · rw [hm] at h; cases h
/-- What comes out is a slice of the call's own, with its maps. -/
def OwnsHp (base : Nat) (w : World) (st : List Hf) (e : Ending) (w' : World) : Prop := ∃ v' l, e = .returned v' ∧ OwnHp base w' v' l ∧ HMs base w' l ∧ l.map Hp.h = st ∧ Below base w w'

theorem fbegin_any (w : World) : Calls Tryz.prog 51 #[] w (OwnsHp w.heap.size w startF) := by
  go_enter Tryz.func51, Tryz.ntmps51
  go_wp2
  go_ret
  refine ⟨_, [⟨⟨9, 1, []⟩, none⟩], rfl, Own.lit hpc_len w #[.int .i64 9, .int .i64 1, .map none] [⟨⟨9, 1, []⟩, none⟩] (Nat.le_refl _) (by decide) rfl, ⟨fun x hx => ?_, fun x hx m hm => ?_, by simp⟩, rfl, (Below.refl _ _).alloc (Nat.le_refl _) _⟩
  · simp at hx; subst hx; unfold HMap; rw [if_neg (by decide)]
  · simp at hx; subst hx; cases hm

/-- What within answers: a holder with a map, if it has named parts. -/
def WiE (w : World) (t : Tm) (e : Ending) (w' : World) : Prop := ∃ x : Hp, e = .returned (hpa x) ∧ x.h = ⟨t.op, t.many, []⟩ ∧ HMap w' x ∧ (∀ m, x.b = some m → w.heap.size ≤ m) ∧ Below w.heap.size w w'
theorem nmap_new (W : World) {n : Nat} (hn : W.heap.size = n) : NMap (W.alloc (.map #[] 0)) n [] := by
  subst hn
  exact ⟨0, fun _ => none, ⟨.map [], World.ownsMap_made W _ _ _, ⟨_, rfl⟩, fun r => ⟨rfl, fun v h => by cases h⟩⟩, Nat.zero_le _, fun r => by simp⟩
set_option maxHeartbeats 1000000 in
theorem within_any (t : Tm) (w : World) : Calls Tryz.prog 105 #[tma t] w (WiE w t) := by
  have hB : Below w.heap.size w w := Below.refl _ _
  by_cases h8 : t.op = 8
  · have hmm := @run_makeMap Tryz.prog
    have e8 : (t.op == 8) = true := by simp [h8]
    go_enter Tryz.func105, Tryz.ntmps105
    go_wp2_with fail
    refine bodyPost_ret (v := hpa ⟨⟨8, t.many, []⟩, some (w.heap.size + 1 + 1 + 1)⟩) (by simp [results, Tryz.results105, go_sem]) rfl ⟨⟨⟨8, t.many, []⟩, some (w.heap.size + 1 + 1 + 1)⟩, rfl, by rw [h8], ?_, ?_, ?_⟩
    · unfold HMap
      rw [if_pos rfl]
      exact ⟨_, rfl, nmap_new _ (by simp)⟩
    · intro m hm; injection hm with hm; omega
    · exact (((hB.alloc (Nat.le_refl _) _).alloc (by simp) _).alloc (by simp <;> omega) _).alloc (by simp <;> omega) _
  · have e8 : (t.op == 8) = false := by simp [h8]
    go_enter Tryz.func105, Tryz.ntmps105
    go_wp2_with fail
    refine bodyPost_ret (v := hpa ⟨⟨t.op, t.many, []⟩, none⟩) (by simp [results, Tryz.results105, go_sem]) rfl ⟨⟨⟨t.op, t.many, []⟩, none⟩, rfl, rfl, ?_, ?_, ?_⟩
    · unfold HMap; rw [if_neg h8]
    · intro m hm; cases hm
    · exact ((hB.alloc (Nat.le_refl _) _).alloc (by simp) _).alloc (by simp <;> omega) _

theorem popF_snoc (st : List Hf) (h : Hf) (h0 : h.left = 0) : (popF (h :: st.reverse)).reverse = (popF st.reverse).reverse := by rw [popF, if_pos h0]
theorem popF_stop (st : List Hf) (h : Hf) (h0 : h.left ≠ 0) : (popF (h :: st.reverse)).reverse = st ++ [h] := by rw [popF, if_neg h0]; simp
/-- A holder behind a term. -/
def stepHp (x : Hp) (t : Tm) : Hp := ⟨stepF x.h t, x.b⟩
theorem HMs.cells {base : Nat} {w : World} {st : List Hp} (h : HMs base w st) {g T : Nat} {cs : Array Value} {fz : Nat × Nat} (hg : w.heap[g]? = some (.cells cs T fz)) (o : Nat) (u : Value) : HMs base (w.setCell ⟨g, o, none⟩ u) st := by
  refine ⟨fun x hx => (h.maps x hx).same (fun m hm => Below.heap_setCell w ⟨g, o, none⟩ u m ?_), h.high, h.apart⟩
  rintro rfl
  have h1 := h.maps x hx
  unfold HMap at h1
  split at h1
  · obtain ⟨m', e1, n, f, hsm, -, -⟩ := h1
    rw [hm] at e1
    injection e1 with e1
    subst e1
    exact hsm.ne hg rfl
  · rw [hm] at h1; cases h1
theorem HMs.step0 {base : Nat} {w : World} {pre : List Hp} {x : Hp} (h : HMs base w (pre ++ [x])) (t : Tm) (h8 : x.h.op ≠ 8) : HMs base w (pre ++ [stepHp x t]) := by
  refine ⟨fun y hy => ?_, fun y hy m hm => ?_, ?_⟩
  · rcases List.mem_append.1 hy with hy | hy
    · exact h.maps y (by simp [hy])
    · simp at hy; subst hy
      have h1 := h.maps x (by simp)
      unfold HMap at h1 ⊢
      rw [if_neg h8] at h1
      rw [if_neg (by exact h8)]
      exact h1
  · rcases List.mem_append.1 hy with hy | hy
    · exact h.high y (by simp [hy]) m hm
    · simp at hy; subst hy
      exact h.high x (by simp) m hm
  · have := h.apart
    rw [List.filterMap_append] at this ⊢
    exact this
theorem HMs.step8 {base : Nat} {w w' : World} {pre : List Hp} {x : Hp} {m : Nat} (h : HMs base w (pre ++ [x])) (t : Tm) (h8 : x.h.op = 8) (hb : x.b = some m) (hg : w.grownBy w' (some m)) (hn : NMap w' m (x.h.ahead ++ [t.name])) : HMs base w' (pre ++ [stepHp x t]) := by
  refine ⟨fun y hy => ?_, fun y hy k hk => ?_, ?_⟩
  · rcases List.mem_append.1 hy with hy | hy
    · have h1 := h.maps y (by simp [hy])
      refine h1.same (fun k hk => hg.block k (h1.lt hk) (fun e => ?_))
      injection e with e
      subst e
      have h2 := h.apart
      rw [List.filterMap_append, List.nodup_append] at h2
      exact h2.2.2 k (List.mem_filterMap.2 ⟨y, hy, hk⟩) k (by simp [hb]) rfl
    · simp at hy; subst hy
      unfold HMap
      rw [if_pos (by exact h8)]
      exact ⟨m, hb, hn⟩
  · rcases List.mem_append.1 hy with hy | hy
    · exact h.high y (by simp [hy]) k hk
    · simp at hy; subst hy
      exact h.high x (by simp) k hk
  · have := h.apart
    rw [List.filterMap_append] at this ⊢
    exact this

theorem HMs.grown {base b2 : Nat} {w w' : World} {st l : List Hp} {v : Value} (h : HMs base w st) (ho : OwnHp b2 w v l) (hg : w.grownBy w' v.ownBlock) : HMs base w' st := by
  refine ⟨fun x hx => (h.maps x hx).same (fun m hm => hg.block m ((h.maps x hx).lt hm) ?_), h.high, h.apart⟩
  have h1 := h.maps x hx
  unfold HMap at h1
  split at h1
  · obtain ⟨m', e1, n, f, hsm, -, -⟩ := h1
    rw [hm] at e1
    injection e1 with e1
    subst e1
    obtain ⟨es, clock, hbk⟩ := hsm.blk
    exact fun e => ho.ne_map hbk e.symm
  · rw [hm] at h1; cases h1
theorem HMs.push {base : Nat} {w w' : World} {st : List Hp} {y : Hp} (h : HMs base w st) (hb : Below w.heap.size w w') (hy : HMap w' y) (hh : ∀ m, y.b = some m → w.heap.size ≤ m) (hbs : base ≤ w.heap.size) : HMs base w' (st ++ [y]) := by
  have h' := h.below hb
  refine ⟨fun z hz => ?_, fun z hz m hm => ?_, ?_⟩
  · rcases List.mem_append.1 hz with hz | hz
    · exact h'.maps z hz
    · simp at hz; subst hz; exact hy
  · rcases List.mem_append.1 hz with hz | hz
    · exact h.high z hz m hm
    · simp at hz; subst hz; exact Nat.le_trans hbs (hh m hm)
  · rw [List.filterMap_append, List.nodup_append]
    refine ⟨h.apart, ?_, fun a ha b hb2 => ?_⟩
    · cases hyb : y.b <;> simp [hyb]
    · obtain ⟨z, hz, hza⟩ := List.mem_filterMap.1 ha
      have h1 := (h.maps z hz).lt hza
      obtain ⟨z2, hz2, hzb⟩ := List.mem_filterMap.1 hb2
      simp at hz2
      subst hz2
      have := hh b hzb
      omega
theorem HMs.front {base : Nat} {w : World} {st : List Hp} {y : Hp} (h : HMs base w (st ++ [y])) : HMs base w st := by
  refine ⟨fun x hx => h.maps x (by simp [hx]), fun x hx => h.high x (by simp [hx]), ?_⟩
  have := h.apart
  rw [List.filterMap_append, List.nodup_append] at this
  exact this.1
theorem i64_wf63 {x : Int} (h0 : 0 ≤ x) (h1 : x ≤ 9223372036854775807) : (Lit.int .i64 x).wf = true := by
  simp only [Lit.wf, IntKind.min, IntKind.max, IntKind.signed, IntKind.bits, Bool.and_eq_true, decide_eq_true_eq, if_true]
  omega

set_option maxRecDepth 100000 in
set_option maxHeartbeats 4000000 in
theorem fpass_any (v : Value) (pre : List Hp) (x : Hp) (t : Tm) (w : World) (base : Nat) (hown : OwnHp base w v (pre ++ [x])) (hM : HMs base w (pre ++ [x])) (hb : base ≤ w.heap.size) (hlen : pre.length ≤ 65536) (hl1 : 1 ≤ x.h.left) (hl2 : x.h.left ≤ 9223372036854775807) (hs : t.name.length ≤ 1000000) (hah : x.h.ahead.length ≤ 65536) :
    Calls Tryz.prog 54 #[v, tma t] w (OwnsHp base w (passF ((pre ++ [x]).map Hp.h).reverse t).reverse) := by
  obtain ⟨g, cap, hv, hg, hglt⟩ := hown.opened (by simp)
  subst hv
  have HO := Lib.hid hown
  have HM := Lib.hid hM
  have hat : (pre ++ [x])[pre.length]? = some x := by simp
  have k1 := Own.cell hpc_len (j := 1) HO.out hat rfl
  have k2 := Own.cell hpc_len (j := 2) HO.out hat rfl
  have f1 := HO.out.free (pre.length * 3 + 1)
  have HP1 : Hid (OwnHp base (w.setCell ⟨g, pre.length * 3 + 1, none⟩ (.int .i64 (x.h.left - 1))) (.slice (some ⟨g, 0, none⟩) (pre.length + 1) cap) (pre ++ [stepHp x t])) := Lib.hid (by
    have := Own.put hpc_len (j := 1) (y := stepHp x t) (u := .int .i64 (x.h.left - 1)) HO.out hat (by decide) rfl
    rw [show (pre ++ [x]).set pre.length (stepHp x t) = pre ++ [stepHp x t] by simp [List.set_append_right]] at this
    simpa using this)
  clear hat hown hM
  have hpl : (pre ++ [x]).length = pre.length + 1 := by simp
  rw [hpl] at *
  have HLN : Hid ((pre ++ [stepHp x t]).length = pre.length + 1) := Lib.hid (by simp)
  have hblk : ∃ cs fz, w.heap[g]? = some (.cells cs 71 fz) := by
    rcases HO.out.2 with ⟨h, _⟩ | ⟨g', cap', cur, h, _, hh, _⟩
    · cases h
    · injection h with h _ _
      injection h with h
      injection h with h _
      subst h
      exact ⟨_, _, hh⟩
  obtain ⟨cs0, fz0, hblk⟩ := hblk
  generalize hp : pre.length = p at *
  have HP := Lib.hid hp; clear hp hpl
  have hgne : g ≠ w.heap.size := by omega
  have e0 : ((p : Int) + 1 == 0) = false := by simp; omega
  have hqn : ∀ (w : World) (r : Option Nat), (binOp .neq 69 (.map r) (.map none)).run Tryz.prog w = .ok (.bool (!r.isNone)) w := fun w r => run_neq_map_nil w _ _ _ r Tryz.underlying69
  by_cases h8 : x.h.op = 8
  · have hM8 := HM.out.maps x (by simp)
    unfold HMap at hM8
    rw [if_pos h8] at hM8
    obtain ⟨m, hxm, n, f, ⟨D, hD, hVw⟩, hnn, hff⟩ := hM8
    rw [hxm] at k2
    have hkey : keyOf Tryz.prog 9 (.string ⟨t.name.toArray⟩) = some (.string t.name) := by
      simpa using WideMaps.keyOf_string_mk (P := Tryz.prog) Tryz.underlying9 (s := ⟨t.name.toArray⟩) (by rw [mk_size]; unfold maxLen; omega)
    have hwf : (Lit.int .i64 (x.h.left - 1)).wf = true := i64_wf63 (by omega) (by omega)
    have HSM : Hid (SMap w m n f) := Lib.hid ⟨D, hD, hVw⟩
    have hD1 : ∀ u o, ((w.setCell ⟨g, p * 3 + 1, none⟩ u).alloc o).ownsMap Tryz.prog 9 (plainElem Tryz.prog 3) m n D := fun u o => by
      obtain ⟨es, clock, hb0, r⟩ := hD
      have h1 : SMap w m n f := HSM.out
      refine World.ownsMap.alloc ⟨es, clock, (Below.heap_setCell w ⟨g, p * 3 + 1, none⟩ u m ?_).trans hb0, r⟩ o
      rintro rfl
      exact h1.ne hblk rfl
    have HFF : Hid (∀ w5 : World, w5.ownsMap Tryz.prog 9 (plainElem Tryz.prog 3) m (n + 1) (D.put (keyT t.name) (.lit (.int .i64 (x.h.left - 1)))) → NMap w5 m (x.h.ahead ++ [t.name])) := Lib.hid (fun w5 h5 => ⟨n + 1, _, ⟨_, h5, hVw.put t.name _⟩, by simp; omega, fun r => by
      unfold upS
      by_cases e : r = t.name
      · rw [if_pos e]; simp [e]
      · rw [if_neg e, hff r]; simp [e]⟩)
    have hnb : n ≤ 65536 := by omega
    have HXM := Lib.hid hxm
    clear hD hVw hff hxm hnn
    have HB1 : Hid (Below base w ((w.setCell ⟨g, p * 3 + 1, none⟩ (.int .i64 (x.h.left - 1))).alloc (.cells #[.int .i64 t.op, .int .i64 t.many, .string ⟨t.name.toArray⟩, .string ⟨t.s.toArray⟩, .int .i64 t.n, .int .i64 t.c.kind, .int .i64 t.c.many, .string ⟨t.c.name.toArray⟩, .string ⟨t.c.s.toArray⟩, .bool t.c.neg, .int .i64 t.c.e] 37))) := Lib.hid (((Below.refl base w).setCell (p := ⟨g, p * 3 + 1, none⟩) hg _).alloc (by simp [World.setCell]; omega) _)
    have HM8 : Hid (HMs base ((w.setCell ⟨g, p * 3 + 1, none⟩ (.int .i64 (x.h.left - 1))).alloc (.cells #[.int .i64 t.op, .int .i64 t.many, .string ⟨t.name.toArray⟩, .string ⟨t.s.toArray⟩, .int .i64 t.n, .int .i64 t.c.kind, .int .i64 t.c.many, .string ⟨t.c.name.toArray⟩, .string ⟨t.c.s.toArray⟩, .bool t.c.neg, .int .i64 t.c.e] 37)) (pre ++ [x])) := Lib.hid ((HM.out.cells hblk _ _).below ((Below.refl _ _).alloc (Nat.le_refl _) _))
    have HMH : Hid (base ≤ m) := Lib.hid (HM.out.high x (by simp) m HXM.out)
    have HTB : Hid (((w.setCell ⟨g, p * 3 + 1, none⟩ (.int .i64 (x.h.left - 1))).alloc (.cells #[.int .i64 t.op, .int .i64 t.many, .string ⟨t.name.toArray⟩, .string ⟨t.s.toArray⟩, .int .i64 t.n, .int .i64 t.c.kind, .int .i64 t.c.many, .string ⟨t.c.name.toArray⟩, .string ⟨t.c.s.toArray⟩, .bool t.c.neg, .int .i64 t.c.e] 37)).heap[w.heap.size]? = some (.cells #[.int .i64 t.op, .int .i64 t.many, .string ⟨t.name.toArray⟩, .string ⟨t.s.toArray⟩, .int .i64 t.n, .int .i64 t.c.kind, .int .i64 t.c.many, .string ⟨t.c.name.toArray⟩, .string ⟨t.c.s.toArray⟩, .bool t.c.neg, .int .i64 t.c.e] 37)) := Lib.hid (by have := heap_alloc_new (w.setCell ⟨g, p * 3 + 1, none⟩ (.int .i64 (x.h.left - 1))) (.cells #[.int .i64 t.op, .int .i64 t.many, .string ⟨t.name.toArray⟩, .string ⟨t.s.toArray⟩, .int .i64 t.n, .int .i64 t.c.kind, .int .i64 t.c.many, .string ⟨t.c.name.toArray⟩, .string ⟨t.c.s.toArray⟩, .bool t.c.neg, .int .i64 t.c.e] 37); simpa [World.setCell] using this)
    have HPW : Hid (OwnHp base ((w.setCell ⟨g, p * 3 + 1, none⟩ (.int .i64 (x.h.left - 1))).alloc (.cells #[.int .i64 t.op, .int .i64 t.many, .string ⟨t.name.toArray⟩, .string ⟨t.s.toArray⟩, .int .i64 t.n, .int .i64 t.c.kind, .int .i64 t.c.many, .string ⟨t.c.name.toArray⟩, .string ⟨t.c.s.toArray⟩, .bool t.c.neg, .int .i64 t.c.e] 37)) (.slice (some ⟨g, 0, none⟩) (p + 1) cap) (pre ++ [stepHp x t])) := Lib.hid (HP1.out.alloc _)
    have HDW := Lib.hid (hD1 (.int .i64 (x.h.left - 1)) (.cells #[.int .i64 t.op, .int .i64 t.many, .string ⟨t.name.toArray⟩, .string ⟨t.s.toArray⟩, .int .i64 t.n, .int .i64 t.c.kind, .int .i64 t.c.many, .string ⟨t.c.name.toArray⟩, .string ⟨t.c.s.toArray⟩, .bool t.c.neg, .int .i64 t.c.e] 37))
    have z2 : ((w.setCell ⟨g, p * 3 + 1, none⟩ (.int .i64 (x.h.left - 1))).alloc (.cells #[.int .i64 t.op, .int .i64 t.many, .string ⟨t.name.toArray⟩, .string ⟨t.s.toArray⟩, .int .i64 t.n, .int .i64 t.c.kind, .int .i64 t.c.many, .string ⟨t.c.name.toArray⟩, .string ⟨t.c.s.toArray⟩, .bool t.c.neg, .int .i64 t.c.e] 37)).cell? ⟨g, p * 3 + 2, none⟩ = some (.map (some m)) := by
      have h := HPW.out
      rw [← HLN.out] at h
      have := Own.cell hpc_len (k := p) (j := 2) (x := stepHp x t) (u := .map x.b) h (by rw [← HP.out]; simp) rfl
      rwa [HXM.out] at this
    have z1 : ((w.setCell ⟨g, p * 3 + 1, none⟩ (.int .i64 (x.h.left - 1))).alloc (.cells #[.int .i64 t.op, .int .i64 t.many, .string ⟨t.name.toArray⟩, .string ⟨t.s.toArray⟩, .int .i64 t.n, .int .i64 t.c.kind, .int .i64 t.c.many, .string ⟨t.c.name.toArray⟩, .string ⟨t.c.s.toArray⟩, .bool t.c.neg, .int .i64 t.c.e] 37)).cell? ⟨g, p * 3 + 1, none⟩ = some (.int .i64 (x.h.left - 1)) := by
      have h := HPW.out
      rw [← HLN.out] at h
      exact Own.cell hpc_len (k := p) (j := 1) (x := stepHp x t) h (by rw [← HP.out]; simp) rfl
    have zn : ((w.setCell ⟨g, p * 3 + 1, none⟩ (.int .i64 (x.h.left - 1))).alloc (.cells #[.int .i64 t.op, .int .i64 t.many, .string ⟨t.name.toArray⟩, .string ⟨t.s.toArray⟩, .int .i64 t.n, .int .i64 t.c.kind, .int .i64 t.c.many, .string ⟨t.c.name.toArray⟩, .string ⟨t.c.s.toArray⟩, .bool t.c.neg, .int .i64 t.c.e] 37)).cell? ⟨w.heap.size, 2, none⟩ = some (.string ⟨t.name.toArray⟩) := by rw [Lib.cell_of_heap HTB.out]; rfl
    clear HM HO HP1 hD1
    by_cases hm : 0 < t.many
    · have HV : Hid ((passF ((pre ++ [x]).map Hp.h).reverse t).reverse = pre.map Hp.h ++ [stepF x.h t, ⟨t.op, t.many, []⟩]) := Lib.hid (by simp [passF_cons, if_pos hm])
      go_enter Tryz.func54, Tryz.ntmps54
      go_wp2_with fail
      generalize ((w.setCell ⟨g, p * 3 + 1, none⟩ (.int .i64 (x.h.left - 1))).alloc (.cells #[.int .i64 t.op, .int .i64 t.many, .string ⟨t.name.toArray⟩, .string ⟨t.s.toArray⟩, .int .i64 t.n, .int .i64 t.c.kind, .int .i64 t.c.many, .string ⟨t.c.name.toArray⟩, .string ⟨t.c.s.toArray⟩, .bool t.c.neg, .int .i64 t.c.e] 37)) = W1 at *
      go_still_tail 10, (by kernel_rfl)
      change wpList _ _ _ _ _ W1.drew
      go_wp2_with (first
        | (at_mapUpdate; refine wpList_mapUpdate_own _ rfl _ _ _ 69 rfl 9 3 lawS Tryz.underlying69 _ m n D rfl HDW.out.drew (by unfold maxLen; omega) _ _ _ rfl rfl hkey _ [] (plainElem_int Tryz.underlying3 hwf) ?_; intro w5 hmap5 hgrow5; obtain ⟨es5, clock5, hmb5, -⟩ := HDW.out.drew; have hq := kept_map (w := W1.drew) hmb5 hgrow5 HTB.out; have q0 := Lib.cell_of_heap hq 0; have q1 := Lib.cell_of_heap hq 1; have q2 := Lib.cell_of_heap hq 2; have q3 := Lib.cell_of_heap hq 3; have q4 := Lib.cell_of_heap hq 4; have q5 := Lib.cell_of_heap hq 5; have q6 := Lib.cell_of_heap hq 6; have q7 := Lib.cell_of_heap hq 7; have q8 := Lib.cell_of_heap hq 8; have q9 := Lib.cell_of_heap hq 9; have q10 := Lib.cell_of_heap hq 10; simp only [List.getElem?_toArray, List.getElem?_cons_succ, List.getElem?_cons_zero] at q0 q1 q2 q3 q4 q5 q6 q7 q8 q9 q10; have HOW : Hid (OwnHp base w5 (.slice (some ⟨g, 0, none⟩) (p + 1) cap) (pre ++ [stepHp x t])) := Lib.hid (Own.map (w := W1.drew) HPW.out hmb5 hgrow5); have HMW : Hid (HMs base w5 (pre ++ [stepHp x t])) := Lib.hid (HMs.step8 (w := W1.drew) (HM8.out.below (Below.refl _ W1).drew) t h8 HXM.out hgrow5 (HFF.out w5 hmap5)); have HBW : Hid (Below base w w5) := Lib.hid (HB1.out.drew.grown hgrow5 (Nat.le_trans hb HB1.out.size) (fun k e => by injection e with e; subst e; exact HMH.out)); have hsz5 : w.heap.size < w5.heap.size := (Array.getElem?_eq_some_iff.1 hq).1; have hsz5b := Nat.le_trans hb HBW.out.size; clear hmap5 hgrow5 hmb5 hq)
        | (go_at_call 105; refine (within_any t w5).mono ?_; rintro e w3 ⟨y, rfl, hy1, hy2, hy3, hb3⟩; have HO3 := Lib.hid (HOW.out.below hb3); have HY1 := Lib.hid hy1; have HM3 := Lib.hid (HMW.out.push hb3 hy2 hy3 (Nat.le_trans hb HBW.out.size)); have HB3 := Lib.hid (HBW.out.trans (hb3.mono (Nat.le_trans hb HBW.out.size))); have hsz3 := Nat.le_trans (Nat.le_trans hb HBW.out.size) hb3.size; clear hy1 hy2 hy3 hb3)
        | (at_builtin; refine wpList_append_row (base := base) elHp rfl _ _ rfl rfl (HO3.out.alloc _) rfl (Row.lit hpc_len w3 71 #[.int .i64 y.h.op, .int .i64 y.h.left, .map y.b] [y] (by show 1 ≤ maxLen; decide) rfl) ?_ ?_ ?_ ?_))
      · rw [HLN.out]; simp only [List.length_singleton]; unfold maxLen; omega
      · rw [HLN.out]; simp only [List.length_singleton]; omega
      · simp; omega
      · intro A c w4 hown4 hg4 _
        have HOW4 := Lib.hid hown4
        have HM4 : Hid (HMs base w4 (pre ++ [stepHp x t] ++ [y])) := Lib.hid ((HM3.out.below ((Below.refl _ w3).alloc (Nat.le_refl _) _)).grown (HO3.out.alloc _) hg4)
        have HB4 : Hid (Below base w w4) := Lib.hid ((HB3.out.alloc hsz3 _).trans ((HO3.out.alloc _).kept hg4 (by simp; omega)))
        clear hown4 hg4
        go_wp2_with fail
        go_ret
        exact ⟨_, _, rfl, HOW4.out, by simpa using HM4.out, by rw [HV.out, ← HY1.out]; simp [stepHp], HB4.out⟩
    · have HV : Hid ((passF ((pre ++ [x]).map Hp.h).reverse t).reverse = (popF (stepF x.h t :: (pre.map Hp.h).reverse)).reverse) := Lib.hid (by simp [passF_cons, if_neg hm])
      have hm' : t.many ≤ 0 := by omega
      clear hm
      go_enter Tryz.func54, Tryz.ntmps54
      go_wp2_with fail
      generalize ((w.setCell ⟨g, p * 3 + 1, none⟩ (.int .i64 (x.h.left - 1))).alloc (.cells #[.int .i64 t.op, .int .i64 t.many, .string ⟨t.name.toArray⟩, .string ⟨t.s.toArray⟩, .int .i64 t.n, .int .i64 t.c.kind, .int .i64 t.c.many, .string ⟨t.c.name.toArray⟩, .string ⟨t.c.s.toArray⟩, .bool t.c.neg, .int .i64 t.c.e] 37)) = W1 at *
      go_still_tail 10, (by kernel_rfl)
      change wpList _ _ _ _ _ W1.drew
      go_wp2_with (at_mapUpdate; refine wpList_mapUpdate_own _ rfl _ _ _ 69 rfl 9 3 lawS Tryz.underlying69 _ m n D rfl HDW.out.drew (by unfold maxLen; omega) _ _ _ rfl rfl hkey _ [] (plainElem_int Tryz.underlying3 hwf) ?_; intro w5 hmap5 hgrow5; obtain ⟨es5, clock5, hmb5, -⟩ := HDW.out.drew; have hq := kept_map (w := W1.drew) hmb5 hgrow5 HTB.out; have q0 := Lib.cell_of_heap hq 0; have q1 := Lib.cell_of_heap hq 1; have q2 := Lib.cell_of_heap hq 2; have q3 := Lib.cell_of_heap hq 3; have q4 := Lib.cell_of_heap hq 4; have q5 := Lib.cell_of_heap hq 5; have q6 := Lib.cell_of_heap hq 6; have q7 := Lib.cell_of_heap hq 7; have q8 := Lib.cell_of_heap hq 8; have q9 := Lib.cell_of_heap hq 9; have q10 := Lib.cell_of_heap hq 10; simp only [List.getElem?_toArray, List.getElem?_cons_succ, List.getElem?_cons_zero] at q0 q1 q2 q3 q4 q5 q6 q7 q8 q9 q10; have HOW : Hid (OwnHp base w5 (.slice (some ⟨g, 0, none⟩) (p + 1) cap) (pre ++ [stepHp x t])) := Lib.hid (Own.map (w := W1.drew) HPW.out hmb5 hgrow5); have HMW : Hid (HMs base w5 (pre ++ [stepHp x t])) := Lib.hid (HMs.step8 (w := W1.drew) (HM8.out.below (Below.refl _ W1).drew) t h8 HXM.out hgrow5 (HFF.out w5 hmap5)); have HBW : Hid (Below base w w5) := Lib.hid (HB1.out.drew.grown hgrow5 (Nat.le_trans hb HB1.out.size) (fun k e => by injection e with e; subst e; exact HMH.out)); have hsz5 : w.heap.size < w5.heap.size := (Array.getElem?_eq_some_iff.1 hq).1; have hsz5b := Nat.le_trans hb HBW.out.size; clear hmap5 hgrow5 hmb5 hq)
      go_loopw [0] (fun s0 wr => ∃ st : List Hp, s0 = .slice (some ⟨g, 0, none⟩) st.length cap ∧ wr = w5 ∧ st.length ≤ 65537 ∧ Hid (OwnHp base wr (.slice (some ⟨g, 0, none⟩) st.length cap) st) ∧ Hid (HMs base wr st) ∧ Hid ((popF (st.map Hp.h).reverse).reverse = (popF (stepF x.h t :: (pre.map Hp.h).reverse)).reverse)) (fun s0 _ => lenOf s0)
      case atStart => exact ⟨pre ++ [stepHp x t], by simp [HP.out], rfl, by simp [HP.out]; omega, Lib.hid (by rw [HLN.out]; exact HOW.out), HMW, Lib.hid (by simp [stepHp])⟩
      case round =>
        obtain ⟨st, rfl, rfl, hsl, HOS, HMS, HPO⟩ := hrel
        rcases List.eq_nil_or_concat st with rfl | ⟨st', y, rfl⟩
        · have HE : Hid ((passF ((pre ++ [x]).map Hp.h).reverse t).reverse = []) := Lib.hid (by rw [HV.out, ← HPO.out]; rfl)
          simp only [List.length_nil] at HOS ⊢
          go_wp2
          go_ret
          exact ⟨_, [], rfl, HOS.out, HMS.out, HE.out.symm, HBW.out⟩
        · rw [List.concat_eq_append] at *
          have hst : (st' ++ [y])[st'.length]? = some y := by simp
          have r1 := Own.cell hpc_len (j := 1) HOS.out hst rfl
          clear hst
          have hpl : (st' ++ [y]).length = st'.length + 1 := by simp
          rw [hpl] at hsl HOS ⊢
          obtain ⟨-, hcap, hcm⟩ := HOS.out.cap
          unfold maxLen at hcm
          have hrv : ((st' ++ [y]).map Hp.h).reverse = y.h :: (st'.map Hp.h).reverse := by simp
          rw [hrv] at HPO
          by_cases hx0 : y.h.left = 0
          · have HE : Hid ((popF (st'.map Hp.h).reverse).reverse = (popF (stepF x.h t :: (pre.map Hp.h).reverse)).reverse) := Lib.hid (by rw [← HPO.out]; exact (popF_snoc _ y.h hx0).symm)
            have HOP := Lib.hid (Own.pop hpc_len HOS.out)
            have HMP := Lib.hid (HMs.front HMS.out)
            rw [hx0] at r1
            clear hpl hrv
            go_wp2
            go_roundw
            case rel => exact ⟨st', by simp, by simp, by omega, HOP, HMP, HE⟩
            case measure => simp [lenOf]
          · have HE : Hid ((passF ((pre ++ [x]).map Hp.h).reverse t).reverse = st'.map Hp.h ++ [y.h]) := Lib.hid (by rw [HV.out, ← HPO.out]; exact popF_stop _ y.h hx0)
            have ex : (y.h.left == 0) = false := by simp [hx0]
            clear hpl hrv
            go_wp2
            go_ret
            exact ⟨_, st' ++ [y], rfl, HOS.out, HMS.out, by rw [HE.out]; simp, HBW.out⟩
  · have hbn : x.b = none := by have := HM.out.maps x (by simp); unfold HMap at this; rwa [if_neg h8] at this
    rw [hbn] at k2
    have HOW : Hid (OwnHp base ((w.setCell ⟨g, p * 3 + 1, none⟩ (.int .i64 (x.h.left - 1))).alloc (.cells #[.int .i64 t.op, .int .i64 t.many, .string ⟨t.name.toArray⟩, .string ⟨t.s.toArray⟩, .int .i64 t.n, .int .i64 t.c.kind, .int .i64 t.c.many, .string ⟨t.c.name.toArray⟩, .string ⟨t.c.s.toArray⟩, .bool t.c.neg, .int .i64 t.c.e] 37)) (.slice (some ⟨g, 0, none⟩) (p + 1) cap) (pre ++ [stepHp x t])) := Lib.hid (HP1.out.alloc _)
    have HMW : Hid (HMs base ((w.setCell ⟨g, p * 3 + 1, none⟩ (.int .i64 (x.h.left - 1))).alloc (.cells #[.int .i64 t.op, .int .i64 t.many, .string ⟨t.name.toArray⟩, .string ⟨t.s.toArray⟩, .int .i64 t.n, .int .i64 t.c.kind, .int .i64 t.c.many, .string ⟨t.c.name.toArray⟩, .string ⟨t.c.s.toArray⟩, .bool t.c.neg, .int .i64 t.c.e] 37)) (pre ++ [stepHp x t])) := Lib.hid (((HM.out.step0 t h8).cells hblk _ _).below ((Below.refl _ _).alloc (Nat.le_refl _) _))
    have HBW : Hid (Below base w ((w.setCell ⟨g, p * 3 + 1, none⟩ (.int .i64 (x.h.left - 1))).alloc (.cells #[.int .i64 t.op, .int .i64 t.many, .string ⟨t.name.toArray⟩, .string ⟨t.s.toArray⟩, .int .i64 t.n, .int .i64 t.c.kind, .int .i64 t.c.many, .string ⟨t.c.name.toArray⟩, .string ⟨t.c.s.toArray⟩, .bool t.c.neg, .int .i64 t.c.e] 37))) := Lib.hid (((Below.refl base w).setCell (p := ⟨g, p * 3 + 1, none⟩) hg _).alloc (by simp [World.setCell]; omega) _)
    clear HP1 HM HO
    by_cases hm : 0 < t.many
    · have HV : Hid ((passF ((pre ++ [x]).map Hp.h).reverse t).reverse = pre.map Hp.h ++ [stepF x.h t, ⟨t.op, t.many, []⟩]) := Lib.hid (by simp [passF_cons, if_pos hm])
      go_enter Tryz.func54, Tryz.ntmps54
      go_wp2_with (first
        | (go_at_call 105; refine (within_any t ((w.setCell ⟨g, p * 3 + 1, none⟩ (.int .i64 (x.h.left - 1))).alloc (.cells #[.int .i64 t.op, .int .i64 t.many, .string ⟨t.name.toArray⟩, .string ⟨t.s.toArray⟩, .int .i64 t.n, .int .i64 t.c.kind, .int .i64 t.c.many, .string ⟨t.c.name.toArray⟩, .string ⟨t.c.s.toArray⟩, .bool t.c.neg, .int .i64 t.c.e] 37))).mono ?_; rintro e w3 ⟨y, rfl, hy1, hy2, hy3, hb3⟩; have HO3 := Lib.hid (HOW.out.below hb3); have HY1 := Lib.hid hy1; have HM3 := Lib.hid (HMW.out.push hb3 hy2 hy3 (Nat.le_trans hb HBW.out.size)); have HB3 := Lib.hid (HBW.out.trans (hb3.mono (Nat.le_trans hb HBW.out.size))); have hsz3 := Nat.le_trans (Nat.le_trans hb HBW.out.size) hb3.size; clear hy1 hy2 hy3 hb3)
        | (at_builtin; refine wpList_append_row (base := base) elHp rfl _ _ rfl rfl (HO3.out.alloc _) rfl (Row.lit hpc_len w3 71 #[.int .i64 y.h.op, .int .i64 y.h.left, .map y.b] [y] (by show 1 ≤ maxLen; decide) rfl) ?_ ?_ ?_ ?_))
      · rw [HLN.out]; simp only [List.length_singleton]; unfold maxLen; omega
      · rw [HLN.out]; simp only [List.length_singleton]; omega
      · simp; omega
      · intro A c w4 hown4 hg4 _
        have HOW4 := Lib.hid hown4
        have HM4 : Hid (HMs base w4 (pre ++ [stepHp x t] ++ [y])) := Lib.hid ((HM3.out.below ((Below.refl _ w3).alloc (Nat.le_refl _) _)).grown (HO3.out.alloc _) hg4)
        have HB4 : Hid (Below base w w4) := Lib.hid ((HB3.out.alloc hsz3 _).trans ((HO3.out.alloc _).kept hg4 (by simp; omega)))
        clear hown4 hg4
        go_wp2_with fail
        go_ret
        exact ⟨_, _, rfl, HOW4.out, by simpa using HM4.out, by rw [HV.out, ← HY1.out]; simp [stepHp], HB4.out⟩
    · have HV : Hid ((passF ((pre ++ [x]).map Hp.h).reverse t).reverse = (popF (stepF x.h t :: (pre.map Hp.h).reverse)).reverse) := Lib.hid (by simp [passF_cons, if_neg hm])
      have hm' : t.many ≤ 0 := by omega
      clear hm
      go_enter Tryz.func54, Tryz.ntmps54
      go_wp2_with fail
      go_loopw [0] (fun s0 wr => ∃ st : List Hp, s0 = .slice (some ⟨g, 0, none⟩) st.length cap ∧ wr = ((w.setCell ⟨g, p * 3 + 1, none⟩ (.int .i64 (x.h.left - 1))).alloc (.cells #[.int .i64 t.op, .int .i64 t.many, .string ⟨t.name.toArray⟩, .string ⟨t.s.toArray⟩, .int .i64 t.n, .int .i64 t.c.kind, .int .i64 t.c.many, .string ⟨t.c.name.toArray⟩, .string ⟨t.c.s.toArray⟩, .bool t.c.neg, .int .i64 t.c.e] 37)) ∧ st.length ≤ 65537 ∧ Hid (OwnHp base wr (.slice (some ⟨g, 0, none⟩) st.length cap) st) ∧ Hid (HMs base wr st) ∧ Hid ((popF (st.map Hp.h).reverse).reverse = (popF (stepF x.h t :: (pre.map Hp.h).reverse)).reverse)) (fun s0 _ => lenOf s0)
      case atStart => exact ⟨pre ++ [stepHp x t], by simp [HP.out], rfl, by simp [HP.out]; omega, Lib.hid (by rw [HLN.out]; exact HOW.out), HMW, Lib.hid (by simp [stepHp])⟩
      case round =>
        obtain ⟨st, rfl, rfl, hsl, HOS, HMS, HPO⟩ := hrel
        rcases List.eq_nil_or_concat st with rfl | ⟨st', y, rfl⟩
        · have HE : Hid ((passF ((pre ++ [x]).map Hp.h).reverse t).reverse = []) := Lib.hid (by rw [HV.out, ← HPO.out]; rfl)
          simp only [List.length_nil] at HOS ⊢
          go_wp2
          go_ret
          exact ⟨_, [], rfl, HOS.out, HMS.out, HE.out.symm, HBW.out⟩
        · rw [List.concat_eq_append] at *
          have hst : (st' ++ [y])[st'.length]? = some y := by simp
          have r1 := Own.cell hpc_len (j := 1) HOS.out hst rfl
          clear hst
          have hpl : (st' ++ [y]).length = st'.length + 1 := by simp
          rw [hpl] at hsl HOS ⊢
          obtain ⟨-, hcap, hcm⟩ := HOS.out.cap
          unfold maxLen at hcm
          have hrv : ((st' ++ [y]).map Hp.h).reverse = y.h :: (st'.map Hp.h).reverse := by simp
          rw [hrv] at HPO
          by_cases hx0 : y.h.left = 0
          · have HE : Hid ((popF (st'.map Hp.h).reverse).reverse = (popF (stepF x.h t :: (pre.map Hp.h).reverse)).reverse) := Lib.hid (by rw [← HPO.out]; exact (popF_snoc _ y.h hx0).symm)
            have HOP := Lib.hid (Own.pop hpc_len HOS.out)
            have HMP := Lib.hid (HMs.front HMS.out)
            rw [hx0] at r1
            clear hpl hrv
            go_wp2
            go_roundw
            case rel => exact ⟨st', by simp, by simp, by omega, HOP, HMP, HE⟩
            case measure => simp [lenOf]
          · have HE : Hid ((passF ((pre ++ [x]).map Hp.h).reverse t).reverse = st'.map Hp.h ++ [y.h]) := Lib.hid (by rw [HV.out, ← HPO.out]; exact popF_stop _ y.h hx0)
            have ex : (y.h.left == 0) = false := by simp [hx0]
            clear hpl hrv
            go_wp2
            go_ret
            exact ⟨_, st' ++ [y], rfl, HOS.out, HMS.out, by rw [HE.out]; simp, HBW.out⟩
end Go.Proofs.YtmajkafoenfceaaGreatDoor

/-
  What term.Right answers.
-/
namespace Go.Proofs.YtmajkafoenfceaaGreatDoor
open Go.RowKit Np Rw Vp Pw Fw

theorem popF_mem : ∀ {st : List Hf} {y : Hf}, y ∈ popF st → y ∈ st
  | h :: st, y, hy => by
    unfold popF at hy
    split at hy
    · exact List.mem_cons_of_mem _ (popF_mem hy)
    · exact hy
theorem passF_left {h : Hf} {st : List Hf} {n : Tm} {B : Int} (hst : ∀ x ∈ h :: st, x.left ≤ B) (hn : n.many ≤ B) : ∀ y ∈ passF (h :: st) n, y.left ≤ B := by
  have hs : ∀ y ∈ stepF h n :: st, y.left ≤ B := by
    intro y hy
    rcases List.mem_cons.1 hy with rfl | hy
    · have := hst h (by simp); simp [stepF]; omega
    · exact hst y (by simp [hy])
  intro y hy
  rw [passF_cons] at hy
  split at hy
  · rcases List.mem_cons.1 hy with rfl | hy
    · exact hn
    · exact hs y hy
  · exact hs y (popF_mem hy)
theorem passF_ahead {h : Hf} {st : List Hf} {n : Tm} {B : Nat} (hst : ∀ x ∈ h :: st, x.ahead.length ≤ B) : ∀ y ∈ passF (h :: st) n, y.ahead.length ≤ B + 1 := by
  have hs : ∀ y ∈ stepF h n :: st, y.ahead.length ≤ B + 1 := by
    intro y hy
    rcases List.mem_cons.1 hy with rfl | hy
    · have := hst h (by simp); simp [stepF]; omega
    · have := hst y (by simp [hy]); omega
  intro y hy
  rw [passF_cons] at hy
  split at hy
  · rcases List.mem_cons.1 hy with rfl | hy
    · simp
    · exact hs y hy
  · exact hs y (popF_mem hy)

/-- What the walk along a row rests on, at a term. -/
structure RgF (g p B : Nat) (h : Hp) (x : Tm) (W0 w' : World) : Prop where
  c0 : w'.cell? ⟨g, p * 3, none⟩ = some (.int .i64 h.h.op)
  c1 : w'.cell? ⟨g, p * 3 + 1, none⟩ = some (.int .i64 h.h.left)
  c2 : w'.cell? ⟨g, p * 3 + 2, none⟩ = some (.map h.b)
  t : Tm11 w' B 0 x
  hg : g < w'.heap.size
  hB : B < w'.heap.size
  tab : Pv w'
  mp : HMap w' h
  low : Below W0.heap.size W0 w'
theorem RgF.step {g p B : Nat} {h : Hp} {x : Tm} {W0 W W' : World} (hr : RgF g p B h x W0 W) (hb : Below W.heap.size W W') : RgF g p B h x W0 W' :=
  ⟨(hb.cell hr.hg).trans hr.c0, (hb.cell hr.hg).trans hr.c1, (hb.cell hr.hg).trans hr.c2, hr.t.below hr.hB hb, Nat.lt_of_lt_of_le hr.hg hb.size, Nat.lt_of_lt_of_le hr.hB hb.size, hr.tab.below hb, hr.mp.below hb, Below.after hr.low hb⟩

set_option maxRecDepth 100000 in
set_option maxHeartbeats 4000000 in
theorem tright_any (v : Value) (l : List Tm) (w : World) (hv : Tms w v l) (hl : l.length ≤ 60000) (hft : ∀ t ∈ l, FitTm t) (hT : Pv w) :
    Calls Tryz.prog 18 #[v] w fun e w' => e = .returned (.bool (rightF l)) ∧ Below w.heap.size w w' := by
  generalize hans : rightF l = ans
  have HANS := Lib.hid hans; clear hans
  have HFT := Lib.hid hft
  clear hft
  rcases Nat.eq_zero_or_pos l.length with h0 | h0
  · have e1 := List.eq_nil_of_length_eq_zero h0
    subst e1
    obtain ⟨A, c, rfl, -⟩ := hv
    have HE : Hid (ans = false) := Lib.hid (by rw [← HANS.out]; rfl)
    clear h0 hl
    simp only [List.length_nil]
    go_enter Tryz.func18, Tryz.ntmps18
    go_wp2_with fail
    refine (fbegin_any _).mono ?_
    rintro e w1 ⟨v1, l1, rfl, ho1, hm1, hl1, hb1⟩
    obtain ⟨x1, rfl⟩ := List.length_eq_one_iff.1 (show l1.length = 1 by have := congrArg List.length hl1; simpa [startF] using this)
    obtain ⟨g, cap, rfl, hg, hglt⟩ := ho1.opened (by simp)
    clear ho1 hm1 hl1
    simp only [List.length_singleton]
    go_wp2_with fail
    go_loopw [3, 9] (fun a b wr => a = .slice (some ⟨g, 0, none⟩) 1 cap ∧ b = .int .i64 0 ∧ wr = w1) (fun _ _ _ => 0)
    case atStart => exact ⟨rfl, rfl, rfl⟩
    case round =>
      obtain ⟨rfl, rfl, rfl⟩ := hrel
      go_wp2
      go_ret
      exact ⟨ret_bool HE.out.symm, hb1⟩
  · obtain ⟨gv, o, c, rfl, hc, hcm, hgv, hx⟩ := hv.opened h0
    have HX := Lib.hid hx; clear hx
    generalize hn : l.length = n at *
    have HN := Lib.hid hn; clear hn
    go_enter Tryz.func18, Tryz.ntmps18
    go_wp2_with fail
    refine (fbegin_any _).mono ?_
    rintro e w1 ⟨v1, l1, rfl, ho1, hm1, hl1, hb1⟩
    obtain ⟨x1, rfl⟩ := List.length_eq_one_iff.1 (show l1.length = 1 by have := congrArg List.length hl1; simpa [startF] using this)
    have hx1 : x1.h = ⟨9, 1, []⟩ := by simpa [startF] using hl1
    obtain ⟨g, cap, rfl, hg, hglt⟩ := ho1.opened (by simp)
    have HO := Lib.hid ho1; clear ho1
    have HM1 := Lib.hid hm1; clear hm1
    have HX1 := Lib.hid hx1; clear hx1 hl1
    simp only [List.length_singleton] at HO ⊢
    go_wp2_with fail
    go_loopw [3, 9] (fun a b wr => ∃ (k : Nat) (st : List Hp) (A : Option Addr) (cc : Nat), k ≤ n ∧ b = .int .i64 k ∧ a = .slice A st.length cc ∧ Hid (OwnHp w.heap.size wr (.slice A st.length cc) st) ∧ Hid (HMs w.heap.size wr st) ∧ Below w.heap.size w wr ∧ Hid (runF (st.map Hp.h).reverse (l.drop k) = ans) ∧ Hid (FitF (st.map Hp.h).reverse) ∧ Hid (∀ x ∈ (st.map Hp.h).reverse, x.left ≤ 9223372036854775807) ∧ Hid (∀ x ∈ (st.map Hp.h).reverse, x.ahead.length ≤ k) ∧ st.length ≤ k + 1) (fun _ b _ => n - (intOf b).toNat)
    case atStart => exact ⟨0, [x1], some ⟨g, 0, none⟩, cap, Nat.zero_le _, rfl, rfl, HO, HM1, hb1, Lib.hid (by have := HX1.out; simp [this]; exact HANS.out), Lib.hid (by have := HX1.out; simp [this, FitF]), Lib.hid (by have := HX1.out; simp [this]), Lib.hid (by have := HX1.out; simp [this]), by simp⟩
    case round =>
      obtain ⟨k, st, A, cc, hk, rfl, rfl, HOS, HMS, hbw, HR, HF, HLF, HLA, hsl⟩ := hrel
      by_cases hlt : k < n
      · obtain ⟨x, hx⟩ : ∃ a, l[k]? = some a := ⟨_, List.getElem?_eq_getElem (by rw [HN.out]; exact hlt)⟩
        obtain ⟨a0, a1, a2, a3, a4, a5, a6, a7, a8, a9, a10⟩ := (HX.out k x hx).tm.below hgv hbw
        have HD : Hid (l.drop k = x :: l.drop (k + 1)) := Lib.hid (drop_at hx)
        have HSN : Hid (FitTm x) := Lib.hid (HFT.out x (List.mem_of_getElem? hx))
        clear hx
        rcases List.eq_nil_or_concat st with rfl | ⟨pre, h, rfl⟩
        · have HE : Hid (ans = false) := Lib.hid (by rw [← HR.out, HD.out]; rfl)
          simp only [List.length_nil]
          go_wp2
          go_quiet (fail)
          go_wp2
          go_ret
          exact ⟨ret_bool HE.out.symm, drewN_below (hbw.alloc hbw.size _) _⟩
        · rw [List.concat_eq_append] at *
          have hrv : ((pre ++ [h]).map Hp.h).reverse = h.h :: (pre.map Hp.h).reverse := by simp
          rw [hrv] at HR HF HLF HLA
          have HRC : Hid (ans = (letsF h.h x && plainT x && runF (passF (h.h :: (pre.map Hp.h).reverse) x) (l.drop (k + 1)))) := Lib.hid (by rw [← HR.out, HD.out, runF_cons])
          have hh1 : 1 ≤ h.h.left := HF.out.1
          have hh2 : h.h.left ≤ 9223372036854775807 := HLF.out h.h (by simp)
          have hh3 : h.h.ahead.length ≤ k := HLA.out h.h (by simp)
          obtain ⟨g', cap', hA, hg', hglt'⟩ := HOS.out.opened (by simp)
          injection hA with hA _ hcc
          subst hA hcc
          have hW0 : ∃ W0, W0 = wr.alloc (.cells #[.int .i64 x.op, .int .i64 x.many, .string ⟨x.name.toArray⟩, .string ⟨x.s.toArray⟩, .int .i64 x.n, .int .i64 x.c.kind, .int .i64 x.c.many, .string ⟨x.c.name.toArray⟩, .string ⟨x.c.s.toArray⟩, .bool x.c.neg, .int .i64 x.c.e] 37) := ⟨_, rfl⟩
          obtain ⟨W0, hW0⟩ := hW0
          have hpl : (pre ++ [h]).length = pre.length + 1 := by simp
          have hp0 : ∃ p, p = pre.length := ⟨_, rfl⟩
          obtain ⟨p, hp⟩ := hp0
          have hbW : Below w.heap.size w W0 := by rw [hW0]; exact hbw.alloc hbw.size _
          have hbW2 : Below wr.heap.size wr W0 := by rw [hW0]; exact (Below.refl _ _).alloc (Nat.le_refl _) _
          have HOW : Hid (OwnHp w.heap.size W0 (.slice (some ⟨g', 0, none⟩) (pre ++ [h]).length cc) (pre ++ [h])) := Lib.hid (by rw [hW0]; exact HOS.out.alloc _)
          have HMW : Hid (HMs w.heap.size W0 (pre ++ [h])) := Lib.hid (HMS.out.below hbW2)
          have hat : (pre ++ [h])[pre.length]? = some h := by simp
          have hStart : RgF g' p wr.heap.size h x W0 W0 := by
            subst hp
            exact ⟨Own.cell hpc_len (j := 0) HOW.out hat rfl, Own.cell hpc_len (j := 1) HOW.out hat rfl, Own.cell hpc_len (j := 2) HOW.out hat rfl, by rw [hW0]; exact tm_alloc wr x, (Own.lt HOW.out).2, by rw [hW0]; simp, hT.below hbW, HMW.out.maps h (by simp), Below.refl _ _⟩
          clear hat
          rw [hpl, ← hp] at HOW hsl ⊢
          have HP := Lib.hid hp
          clear hp hpl hrv HOS
          have e0 : ((p : Int) + 1 == 0) = false := by simp; omega
          have hsz0 : W0.heap.size = wr.heap.size + 1 := by rw [hW0]; simp
          go_upto_region 5 with fail
          rw [← hW0]
          have HW0 := Lib.hid hW0
          have HSZ := Lib.hid hsz0
          clear hW0 hsz0 a0 a1 a2 a3 a4 a5 a6 a7 a8 a9 a10
          have w1 : IntKind.i64.wrap ((p : Int) + 1 - 1) = (p : Int) := by rw [Int.add_sub_cancel]; exact IntWalk.i64_in _ (by omega)
          have w2 : IntKind.i64.wrap (p : Int) = (p : Int) := IntWalk.i64_in _ (by omega)
          have w3 : (0 : Int) ≤ (p : Int) := by omega
          have w4 : (p : Int) < (p : Int) + 1 := by omega
          have w5 : (p : Int).toNat = p := by omega
          have HS2 : Hid (RgF g' p wr.heap.size h x W0 W0.drew) := Lib.hid (hStart.step (Below.refl _ _).drew)
          cases hle : letsF h.h x
          · have HLE := Lib.hid hle
            have HE : Hid (ans = false) := Lib.hid (by rw [HRC.out, hle]; rfl)
            clear hle
            go_cut [31] (fun s31 wx => s31 = .bool true ∧ Below W0.heap.size W0 wx)
            case first =>
              obtain ⟨z0, z1, z2, zt, -, -, -, -, -⟩ := hStart
              obtain ⟨y0, y1, y2, y3, y4, y5, y6, y7, y8, y9, y10⟩ := zt
              simp only [Nat.zero_add] at y1 y2 y3 y4 y5 y6 y7 y8 y9 y10
              go_still_tail 11, (by kernel_rfl)
              change wpList _ _ _ _ _ W0.drew
              generalize W0.drew = w2 at HS2 ⊢
              clear z0 z1 z2 y0 y1 y2 y3 y4 y5 y6 y7 y8 y9 y10
              go_wp2_with fail
              refine (flets_any h x _ HSN.out.name HS2.out.tab.tabs HS2.out.mp).mono ?_
              rintro e3 w3 ⟨rfl, hb3⟩
              rw [HLE.out]
              go_wp2_with fail
              go_meet
              exact ⟨by simp, Below.after HS2.out.low hb3⟩
            case rest =>
              obtain ⟨rfl, hBx⟩ := hcut
              go_wp2_with fail
              go_ret
              exact ⟨ret_bool HE.out.symm, Below.after hbW hBx⟩
          · have HLE := Lib.hid hle
            cases hpn : plainT x
            · have HPL := Lib.hid hpn
              have HE : Hid (ans = false) := Lib.hid (by rw [HRC.out, hle, hpn]; rfl)
              clear hle hpn
              go_cut [31] (fun s31 wx => s31 = .bool true ∧ Below W0.heap.size W0 wx)
              case first =>
                obtain ⟨z0, z1, z2, zt, -, -, -, -, -⟩ := hStart
                obtain ⟨y0, y1, y2, y3, y4, y5, y6, y7, y8, y9, y10⟩ := zt
                simp only [Nat.zero_add] at y1 y2 y3 y4 y5 y6 y7 y8 y9 y10
                go_still_tail 11, (by kernel_rfl)
                change wpList _ _ _ _ _ W0.drew
                generalize W0.drew = w2 at HS2 ⊢
                clear z0 z1 z2 y0 y1 y2 y3 y4 y5 y6 y7 y8 y9 y10
                go_wp2_with fail
                refine (flets_any h x _ HSN.out.name HS2.out.tab.tabs HS2.out.mp).mono ?_
                rintro e3 w3 ⟨rfl, hb3⟩
                rw [HLE.out]
                have HS3 := Lib.hid (HS2.out.step hb3)
                obtain ⟨z0, z1, z2, zt, -, -, -, -, -⟩ := HS3.out
                obtain ⟨y0, y1, y2, y3, y4, y5, y6, y7, y8, y9, y10⟩ := zt
                simp only [Nat.zero_add] at y1 y2 y3 y4 y5 y6 y7 y8 y9 y10
                clear hb3
                go_wp2_with fail
                refine (rightTerm_any x _ HSN.out HS3.out.tab).mono ?_
                rintro e4 w4 ⟨rfl, hb4⟩
                rw [HPL.out]
                clear z0 z1 z2 y0 y1 y2 y3 y4 y5 y6 y7 y8 y9 y10
                go_wp2_with fail
                go_meet
                exact ⟨by simp, Below.after HS3.out.low hb4⟩
              case rest =>
                obtain ⟨rfl, hBx⟩ := hcut
                go_wp2_with fail
                go_ret
                exact ⟨ret_bool HE.out.symm, Below.after hbW hBx⟩
            · have HPL := Lib.hid hpn
              have HE : Hid (ans = runF (passF (h.h :: (pre.map Hp.h).reverse) x) (l.drop (k + 1))) := Lib.hid (by rw [HRC.out, hle, hpn]; rfl)
              clear hle hpn
              go_cut [31] (fun s31 wx => s31 = .bool false ∧ Below W0.heap.size W0 wx)
              case first =>
                obtain ⟨z0, z1, z2, zt, -, -, -, -, -⟩ := hStart
                obtain ⟨y0, y1, y2, y3, y4, y5, y6, y7, y8, y9, y10⟩ := zt
                simp only [Nat.zero_add] at y1 y2 y3 y4 y5 y6 y7 y8 y9 y10
                go_still_tail 11, (by kernel_rfl)
                change wpList _ _ _ _ _ W0.drew
                generalize W0.drew = w2 at HS2 ⊢
                clear z0 z1 z2 y0 y1 y2 y3 y4 y5 y6 y7 y8 y9 y10
                go_wp2_with fail
                refine (flets_any h x _ HSN.out.name HS2.out.tab.tabs HS2.out.mp).mono ?_
                rintro e3 w3 ⟨rfl, hb3⟩
                rw [HLE.out]
                have HS3 := Lib.hid (HS2.out.step hb3)
                obtain ⟨z0, z1, z2, zt, -, -, -, -, -⟩ := HS3.out
                obtain ⟨y0, y1, y2, y3, y4, y5, y6, y7, y8, y9, y10⟩ := zt
                simp only [Nat.zero_add] at y1 y2 y3 y4 y5 y6 y7 y8 y9 y10
                clear hb3
                go_wp2_with fail
                refine (rightTerm_any x _ HSN.out HS3.out.tab).mono ?_
                rintro e4 w4 ⟨rfl, hb4⟩
                rw [HPL.out]
                clear z0 z1 z2 y0 y1 y2 y3 y4 y5 y6 y7 y8 y9 y10
                go_wp2_with fail
                go_meet
                exact ⟨by simp, Below.after HS3.out.low hb4⟩
              case rest =>
                obtain ⟨rfl, hBx⟩ := hcut
                have HSX := Lib.hid (hStart.step hBx)
                obtain ⟨z0, z1, z2, zt, -, -, -, -, -⟩ := HSX.out
                obtain ⟨y0, y1, y2, y3, y4, y5, y6, y7, y8, y9, y10⟩ := zt
                simp only [Nat.zero_add] at y1 y2 y3 y4 y5 y6 y7 y8 y9 y10
                have HOX := Lib.hid (HOW.out.below hBx)
                have HMX := Lib.hid (HMW.out.below hBx)
                have HBX := Lib.hid (Below.after hbW hBx)
                clear hBx hStart HS2
                go_wp2_with fail
                refine (fpass_any _ pre h x _ w.heap.size HOX.out HMX.out HBX.out.size (by rw [← HP.out]; omega) hh1 hh2 HSN.out.name (by omega)).mono ?_
                rintro e5 w5 ⟨v5, l5, rfl, ho5, hm5, hl5, hb5⟩
                obtain ⟨A5, c5, rfl, -, -, -⟩ := ho5.form
                have HO5 := Lib.hid ho5
                have HM5 := Lib.hid hm5
                have HB5 := Lib.hid (HBX.out.trans hb5)
                have hrv2 : ((pre ++ [h]).map Hp.h).reverse = h.h :: (pre.map Hp.h).reverse := by simp
                rw [hrv2] at hl5
                have HL5 : Hid ((l5.map Hp.h).reverse = passF (h.h :: (pre.map Hp.h).reverse) x) := Lib.hid (by rw [hl5, List.reverse_reverse])
                have hln5 := passF_len (h.h :: (pre.map Hp.h).reverse) x
                have hll5 : l5.length = (passF (h.h :: (pre.map Hp.h).reverse) x).length := by have := congrArg List.length HL5.out; simpa using this
                have hpp := HP.out
                simp only [List.length_cons, List.length_reverse, List.length_map] at hln5
                have HFT5 : Hid (FitF ((l5.map Hp.h).reverse)) := Lib.hid (by rw [HL5.out]; exact passF_fit HF.out)
                have HLF5 : Hid (∀ y ∈ (l5.map Hp.h).reverse, y.left ≤ 9223372036854775807) := Lib.hid (by rw [HL5.out]; exact passF_left HLF.out HSN.out.many)
                have HLA5 : Hid (∀ y ∈ (l5.map Hp.h).reverse, y.ahead.length ≤ k + 1) := Lib.hid (by rw [HL5.out]; exact passF_ahead HLA.out)
                clear ho5 hm5 hl5 hb5 hrv2 z0 z1 z2 y0 y1 y2 y3 y4 y5 y6 y7 y8 y9 y10
                go_wp2_with fail
                go_roundw
                case rel => exact ⟨k + 1, l5, A5, c5, by omega, by go_num, by rw [hll5], HO5, HM5, HB5.out, Lib.hid (by rw [HL5.out, HE.out]), HFT5, HLF5, HLA5, by omega⟩
                case measure => simp [intOf]; omega
      · have HE : Hid (ans = st.isEmpty) := Lib.hid (by rw [← HR.out, List.drop_of_length_le (by rw [HN.out]; omega), runF_nil]; simp)
        go_wp2
        go_ret
        refine ⟨ret_bool ?_, hbw⟩
        rw [HE.out]
        cases st with
        | nil => rfl
        | cons a t => simp; omega
end Go.Proofs.YtmajkafoenfceaaGreatDoor

/-
  Plain facts on the filters of the live question of term's laws.
-/
namespace Go.Proofs.YtmajkafoenfceaaGreatDoor
open Go.RowKit Np Rw Vp Up Qp Tp Pw Fw

def bT (op many : Int) : Tm := ⟨op, many, [], [], 0, zeroC⟩
def cmpA : Tm := ⟨16, 0, [], [46, 97], 0, ⟨3, 0, [], [49], false, 0⟩⟩
def fldB : Tm := ⟨1, 0, [], [98], 0, zeroC⟩
def aT : Tr Tm := .mk (bT 5 1) [.mk (bT 4 2) [.mk (bT 7 1) [.mk cmpA []], .mk fldB []]]
def iT : Tr Tm := .mk (bT 0 0) []
def pT : Tr Tm := pipeT (pipeT iT aT) iT
theorem flat_a : flat aT = [bT 5 1, bT 4 2, bT 7 1, cmpA, fldB] := by simp [aT, flat_mk]
theorem flat_i : flat iT = [bT 0 0] := by simp [iT, flat_mk]
theorem right_a : rightF (flat aT) = true := by rw [flat_a]; decide +kernel
theorem right_e : rightF [] = false := by decide +kernel
theorem fltA : Flt aT := by
  refine ⟨?_, by decide +kernel, by decide +kernel, by decide +kernel⟩
  simp [aT, okT_mk, tmany, bT, cmpA, fldB]
theorem fltI : Flt iT := by
  refine ⟨?_, by decide +kernel, by decide +kernel, by decide +kernel⟩
  simp [iT, okT_mk, tmany, bT]
theorem fltP : Flt pT := pipe_right _ _ (pipe_right _ _ fltI fltA) fltI
theorem flat_p : flat pT = [bT 4 2, bT 0 0, bT 4 2, bT 5 1, bT 4 2, bT 7 1, cmpA, fldB, bT 0 0] := by decide +kernel
theorem text_a : txF aT = [109, 97, 112, 40, 115, 101, 108, 101, 99, 116, 40, 46, 97, 32, 61, 61, 32, 49, 41, 32, 124, 32, 46, 98, 41] := by decide +kernel
theorem text_p : txF pT = [46, 32, 124, 32, 109, 97, 112, 40, 115, 101, 108, 101, 99, 116, 40, 46, 97, 32, 61, 61, 32, 49, 41, 32, 124, 32, 46, 98, 41, 32, 124, 32, 46] := by decide +kernel
theorem fitB (op many : Int) (h0 : 0 ≤ op) (h1 : op ≤ 19) (h2 : op ≠ 16) (h3 : many ≤ 2) : FitTm (bT op many) ∧ FitP (bT op many) := by
  refine ⟨⟨by simp [bT], by simp [bT], ⟨by simp [bT, zeroC], by simp [bT, zeroC], by simp [bT, zeroC]⟩, ?_⟩, ⟨h0, h1, by simp [bT], by simp [bT], by simp [bT], by simp [bT], fun h => absurd h h2⟩⟩
  show many ≤ _
  omega
theorem fitD : FitTm fldB ∧ FitP fldB := ⟨⟨by decide, by decide, ⟨by decide, by decide, by decide⟩, by decide⟩, ⟨by decide, by decide, by decide, by decide, by decide, by decide, fun h => absurd h (by decide)⟩⟩
theorem fitC : FitTm cmpA ∧ FitP cmpA := by
  refine ⟨⟨by decide, by decide, ⟨by decide, by decide, by decide⟩, by decide⟩, ⟨by decide, by decide, by decide, by decide, by decide, by decide, fun _ => ⟨⟨⟨by simp [okT_mk, many, cmpA], by decide +kernel, ?_, by decide +kernel⟩, by decide +kernel⟩, by decide, by decide⟩⟩⟩
  intro x hx
  rw [flat_mk, flats_nil, List.mem_singleton] at hx
  subst hx
  exact ⟨by decide, by decide, by decide, by decide, by decide, by decide⟩
theorem fitP_all : ∀ x ∈ flat pT, FitTm x ∧ FitP x := by
  rw [flat_p]
  intro x hx
  simp only [List.mem_cons, List.not_mem_nil, or_false] at hx
  rcases hx with rfl | rfl | rfl | rfl | rfl | rfl | rfl | rfl | rfl
  · exact fitB 4 2 (by decide) (by decide) (by decide) (by decide)
  · exact fitB 0 0 (by decide) (by decide) (by decide) (by decide)
  · exact fitB 4 2 (by decide) (by decide) (by decide) (by decide)
  · exact fitB 5 1 (by decide) (by decide) (by decide) (by decide)
  · exact fitB 4 2 (by decide) (by decide) (by decide) (by decide)
  · exact fitB 7 1 (by decide) (by decide) (by decide) (by decide)
  · exact fitC
  · exact fitD
  · exact fitB 0 0 (by decide) (by decide) (by decide) (by decide)
theorem fitA_all : ∀ x ∈ flat aT, FitTm x ∧ FitP x := by
  intro x hx
  apply fitP_all
  rw [flat_a] at hx
  rw [flat_p]
  simp only [List.mem_cons, List.not_mem_nil, or_false] at hx ⊢
  rcases hx with h | h | h | h | h <;> simp [h]
theorem fitX_a : FitX aT := ⟨fltA.ok, by decide +kernel, fun x hx => (fitA_all x hx).2, by rw [text_a]; decide⟩
theorem fitX_p : FitX pT := ⟨fltP.ok, by decide +kernel, fun x hx => (fitP_all x hx).2, by rw [text_p]; decide⟩
end Go.Proofs.YtmajkafoenfceaaGreatDoor
