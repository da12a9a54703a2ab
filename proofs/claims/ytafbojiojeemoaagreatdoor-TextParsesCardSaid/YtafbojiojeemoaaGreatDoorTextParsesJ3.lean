/-
  Joined: PutP, TqP, QRef4, QRef5, ValW9, ValW12, LenP, SelP, RefW10, ValW8, Grow, ConcW, FrontW, ValW13, AliveP, ValFields.
-/
import Derived.Test.YtafbojiojeemoaaGreatDoorTextCutJ1
import Derived.Test.YtafbojiojeemoaaGreatDoorTextCutJ15
import Derived.Test.YtafbojiojeemoaaGreatDoorQRef3
import Derived.Test.YtafbojiojeemoaaGreatDoorTextCutJ6
import Derived.Sort.Walk0
import Derived.Test.YtafbojiojeemoaaGreatDoorBase
import Derived.Test.YtafbojiojeemoaaGreatDoorTextParsesJ1
import Derived.Test.YtafbojiojeemoaaGreatDoorRefW1
import Derived.Test.YtafbojiojeemoaaGreatDoorTextCutJ7
import Derived.Shelf.Spec.SlicesGrow
import Derived.Test.YtafbojiojeemoaaGreatDoorProg
import Derived.StillTailTactics
import Derived.Test.YtafbojiojeemoaaGreatDoorRefW6
import Derived.Test.YtafbojiojeemoaaGreatDoorTextCutJ16

/-
  Plain words: an object with a part of a name, and without it. No program stands here.
-/
namespace Go.Proofs.YtafbojiojeemoaaGreatDoor
namespace Vp
open Go.RowKit Np Rw

def loT (nm : List UInt8) (ts : List (Tr Nd)) : List (Tr Nd) := ts.filter (fun u => decide (u.nd.name < nm))
def hiT (nm : List UInt8) (ts : List (Tr Nd)) : List (Tr Nd) := ts.filter (fun u => decide (nm < u.nd.name))
def eqT (nm : List UInt8) (ts : List (Tr Nd)) : List (Tr Nd) := ts.filter (fun u => decide (u.nd.name = nm))
def withT (nm : List UInt8) (x t : Tr Nd) : Tr Nd := objT (loT nm t.ks ++ ([nmd nm x] ++ hiT nm t.ks))
def lessT (nm : List UInt8) (t : Tr Nd) : Tr Nd := objT (loT nm t.ks ++ ([] ++ hiT nm t.ks))
theorem cut_of {nm : List UInt8} {ts : List (Tr Nd)} (h : Rise ts) : Cut nm ts (loT nm ts) (eqT nm ts) (hiT nm ts) := by
  obtain ⟨pre, mid, post, hc⟩ := cut_ex nm ts h
  have key : pre = loT nm ts ∧ mid = eqT nm ts ∧ post = hiT nm ts := by
    have e1 : ∀ (p : Tr Nd → Bool) (l : List (Tr Nd)), (∀ u ∈ l, p u = true) → l.filter p = l := fun p l h => List.filter_eq_self.2 h
    have e2 : ∀ (p : Tr Nd → Bool) (l : List (Tr Nd)), (∀ u ∈ l, p u = false) → l.filter p = [] := fun p l h => List.filter_eq_nil_iff.2 (fun u hu => by simp [h u hu])
    have hlt : ∀ {a b : List UInt8}, a < b → ¬ b < a := fun h1 h2 => List.lt_irrefl _ (List.lt_trans h1 h2)
    have hne : ∀ {a b : List UInt8}, a < b → ¬ a = b := fun h1 h2 => List.lt_irrefl _ (h2 ▸ h1)
    unfold loT eqT hiT
    rw [hc.all]
    simp only [List.filter_append]
    refine ⟨?_, ?_, ?_⟩
    · rw [e1 _ pre (fun u hu => by simpa using hc.lo u hu), e2 _ mid (fun u hu => by simp [hc.eq u hu, List.lt_irrefl]), e2 _ post (fun u hu => by simpa using hlt (hc.hi u hu))]; simp
    · rw [e2 _ pre (fun u hu => by simpa using hne (hc.lo u hu)), e1 _ mid (fun u hu => by simpa using hc.eq u hu), e2 _ post (fun u hu => by simpa using fun e => hne (hc.hi u hu) e.symm)]; simp
    · rw [e2 _ pre (fun u hu => by simpa using hlt (hc.lo u hu)), e2 _ mid (fun u hu => by simp [hc.eq u hu, List.lt_irrefl]), e1 _ post (fun u hu => by simpa using hc.hi u hu)]; simp
  obtain ⟨rfl, rfl, rfl⟩ := key
  exact hc
/-- With other parts of that name: lower, higher ones stay. -/
theorem Cut.mk' {nm : List UInt8} {pre mid post : List (Tr Nd)} (lo : ∀ u ∈ pre, u.nd.name < nm) (eq : ∀ u ∈ mid, u.nd.name = nm) (one : mid.length ≤ 1) (hi : ∀ u ∈ post, nm < u.nd.name) : Cut nm (pre ++ (mid ++ post)) pre mid post := ⟨rfl, lo, eq, one, hi⟩
theorem Val.cut {t : Tr Nd} (h : Val t) (hk : t.nd.kind = 6) (nm : List UInt8) : Cut nm t.ks (loT nm t.ks) (eqT nm t.ks) (hiT nm t.ks) := cut_of (h.named hk).1
theorem val_put {t x : Tr Nd} {nm : List UInt8} (h : Val t) (hk : t.nd.kind = 6) (hx : Val x) (hn : vld nm = true) : Val (withT nm x t) := by
  have hc := h.cut hk nm
  have hr := (h.named hk).1
  refine val_objT (fun u hu => ?_) ⟨rise_put (hc.pre_rise hr) (hc.post_rise hr) hc.lo hc.hi (by intro u hu; simp at hu; rw [hu]; rfl) (by simp), fun u hu => ?_⟩
  · rcases List.mem_append.1 hu with hu | hu
    · exact h.parts u (List.mem_filter.1 hu).1
    · rcases List.mem_append.1 hu with hu | hu
      · simp at hu; subst hu; exact ⟨okT_nmd hx.ok, by rw [rightT_nmd]; exact hx.rt⟩
      · exact h.parts u (List.mem_filter.1 hu).1
  · rcases List.mem_append.1 hu with hu | hu
    · exact (h.named hk).2 u (List.mem_filter.1 hu).1
    · rcases List.mem_append.1 hu with hu | hu
      · simp at hu; subst hu; exact hn
      · exact (h.named hk).2 u (List.mem_filter.1 hu).1
theorem val_less {t : Tr Nd} {nm : List UInt8} (h : Val t) (hk : t.nd.kind = 6) : Val (lessT nm t) := by
  have hc := h.cut hk nm
  have hr := (h.named hk).1
  refine val_objT (fun u hu => ?_) ⟨rise_put (hc.pre_rise hr) (hc.post_rise hr) hc.lo hc.hi (by simp) (by simp), fun u hu => ?_⟩
  · rcases List.mem_append.1 hu with hu | hu
    · exact h.parts u (List.mem_filter.1 hu).1
    · simp at hu; exact h.parts u (List.mem_filter.1 hu).1
  · rcases List.mem_append.1 hu with hu | hu
    · exact (h.named hk).2 u (List.mem_filter.1 hu).1
    · simp at hu; exact (h.named hk).2 u (List.mem_filter.1 hu).1
theorem with_cut {t x : Tr Nd} {nm : List UInt8} (h : Val t) (hk : t.nd.kind = 6) : Cut nm (withT nm x t).ks (loT nm t.ks) [nmd nm x] (hiT nm t.ks) :=
  Cut.mk' (h.cut hk nm).lo (by intro u hu; simp at hu; rw [hu]; rfl) (by simp) (h.cut hk nm).hi
theorem less_cut {t : Tr Nd} {nm : List UInt8} (h : Val t) (hk : t.nd.kind = 6) : Cut nm (lessT nm t).ks (loT nm t.ks) [] (hiT nm t.ks) :=
  Cut.mk' (h.cut hk nm).lo (by simp) (by simp) (h.cut hk nm).hi
/-- What is put into one that had another. -/
theorem cut_parts {nm : List UInt8} {ts pre mid post : List (Tr Nd)} (hr : Rise ts) (h : Cut nm ts pre mid post) : loT nm ts = pre ∧ eqT nm ts = mid ∧ hiT nm ts = post := by
  obtain ⟨a, b, c⟩ := (cut_of hr).uniq h
  exact ⟨a, b, c⟩
theorem less_with {t x : Tr Nd} {nm : List UInt8} (h : Val t) (hk : t.nd.kind = 6) (hx : Val x) (hn : vld nm = true) : lessT nm (withT nm x t) = lessT nm t := by
  obtain ⟨a, -, c⟩ := cut_parts ((val_put h hk hx hn).named rfl).1 (with_cut (x := x) (nm := nm) h hk)
  rw [lessT, a, c, lessT]
theorem with_with {t x y : Tr Nd} {nm : List UInt8} (h : Val t) (hk : t.nd.kind = 6) (hx : Val x) (hn : vld nm = true) : withT nm y (withT nm x t) = withT nm y t := by
  obtain ⟨a, -, c⟩ := cut_parts ((val_put h hk hx hn).named rfl).1 (with_cut (x := x) (nm := nm) h hk)
  rw [withT, a, c, withT]
theorem with_less {t y : Tr Nd} {nm : List UInt8} (h : Val t) (hk : t.nd.kind = 6) : withT nm y (lessT nm t) = withT nm y t := by
  obtain ⟨a, -, c⟩ := cut_parts ((val_less (nm := nm) h hk).named rfl).1 (less_cut (nm := nm) h hk)
  rw [withT, a, c, withT]
/-- Put as it was. -/
theorem with_own {t : Tr Nd} {nm : List UInt8} {u : Tr Nd} (h : Val t) (hk : t.nd.kind = 6) (hu : eqT nm t.ks = [u]) : withT nm (nmd [] u) t = t := by
  have hc := h.cut hk nm
  rw [hu] at hc
  have hn : u.nd.name = nm := hc.eq u (by simp)
  rw [withT, nmd_nmd, ← hn, nmd_self]
  rw [hn, ← hc.all]
  exact (h.obj hk).symm
theorem less_own {t : Tr Nd} {nm : List UInt8} (h : Val t) (hk : t.nd.kind = 6) (hu : eqT nm t.ks = []) : lessT nm t = t := by
  have hc := h.cut hk nm
  rw [hu] at hc
  rw [lessT, ← hc.all]
  exact (h.obj hk).symm
theorem eqT_with {t x : Tr Nd} {nm : List UInt8} (h : Val t) (hk : t.nd.kind = 6) (hx : Val x) (hn : vld nm = true) : eqT nm (withT nm x t).ks = [nmd nm x] :=
  (cut_parts ((val_put h hk hx hn).named rfl).1 (with_cut (x := x) (nm := nm) h hk)).2.1
theorem eqT_less {t : Tr Nd} {nm : List UInt8} (h : Val t) (hk : t.nd.kind = 6) : eqT nm (lessT nm t).ks = [] :=
  (cut_parts ((val_less (nm := nm) h hk).named rfl).1 (less_cut (nm := nm) h hk)).2.1
theorem eqT_other {t x : Tr Nd} {nm mm : List UInt8} (h : Val t) (hk : t.nd.kind = 6) (hne : mm ≠ nm) : eqT mm (withT nm x t).ks = eqT mm t.ks := by
  have hc := h.cut hk nm
  have e1 : eqT mm (eqT nm t.ks) = [] := List.filter_eq_nil_iff.2 (fun u hu => by
    have := hc.eq u hu
    simp only [this, decide_eq_true_eq]; exact fun (e : nm = mm) => hne e.symm)
  have e2 : eqT mm [nmd nm x] = [] := List.filter_eq_nil_iff.2 (fun u hu => by
    simp at hu; subst hu
    rw [nmd_name]; simpa using fun (e : nm = mm) => hne e.symm)
  have e3 : ∀ a b : List (Tr Nd), eqT mm (a ++ b) = eqT mm a ++ eqT mm b := fun a b => List.filter_append ..
  conv => rhs; rw [hc.all]
  show eqT mm (loT nm t.ks ++ ([nmd nm x] ++ hiT nm t.ks)) = _
  rw [e3, e3, e3, e3, e1, e2]
theorem eq_cases {t : Tr Nd} (h : Val t) (hk : t.nd.kind = 6) (nm : List UInt8) : eqT nm t.ks = [] ∨ ∃ u, eqT nm t.ks = [u] ∧ u ∈ t.ks := by
  have hc := h.cut hk nm
  cases he : eqT nm t.ks with
  | nil => exact .inl rfl
  | cons u l =>
    rw [he] at hc
    have : l = [] := List.eq_nil_of_length_eq_zero (by have := hc.one; simp at this; simp [this])
    subst this
    exact .inr ⟨u, rfl, by rw [hc.all]; simp⟩
theorem len_parts {t : Tr Nd} (h : Val t) (hk : t.nd.kind = 6) (nm : List UInt8) : (flat t).length = 1 + (flats (loT nm t.ks)).length + (flats (eqT nm t.ks)).length + (flats (hiT nm t.ks)).length := by
  have hc := h.cut hk nm
  rw [flat_eq]
  conv => lhs; rw [hc.all]
  rw [flats_append, flats_append]; simp; omega
theorem len_with (nm : List UInt8) (x t : Tr Nd) : (flat (withT nm x t)).length = 1 + (flats (loT nm t.ks)).length + (flat x).length + (flats (hiT nm t.ks)).length := by
  rw [withT, flat_objT, flats_append, flats_append]; simp [flat_nmd_len]; omega
theorem len_less (nm : List UInt8) (t : Tr Nd) : (flat (lessT nm t)).length = 1 + (flats (loT nm t.ks)).length + (flats (hiT nm t.ks)).length := by
  rw [lessT, flat_objT, flats_append, flats_append]; simp; omega
end Vp
end Go.Proofs.YtafbojiojeemoaaGreatDoor

/-
  Plain words: an object to which fields are put one by one is what their names and values make together. No program stands here.
-/
namespace Go.Proofs.YtafbojiojeemoaaGreatDoor
namespace Tp
open Go.RowKit Np Rw Vp Up Qp

/-- An object's fields: names and values. -/
def prs (t : Tr Nd) : List Pr := t.ks.map fun k => (k.nd.name, flat (nmd [] k))
theorem zip_fs : ∀ l : List Pr, (l.map (·.1)).zip (l.map (·.2)) = l
  | [] => rfl
  | p :: l => by simp [zip_fs l]
theorem prs_rises {t : Tr Nd} (h : Val t) (hk : t.nd.kind = 6) : rises (prs t) := by
  unfold rises prs
  exact List.pairwise_map.2 (h.named hk).1
theorem obV_perm {t : Tr Nd} (h : Val t) (hk : t.nd.kind = 6) {acc : List Pr} (hp : acc.Perm (prs t)) : obV acc = flat t := by
  obtain ⟨h1, h2⟩ := obj_again h hk
  have e1 : (t.ks.map fun k => k.nd.name) = (prs t).map (·.1) := by simp [prs, Function.comp_def]
  have e2 : (t.ks.map fun k => flat (nmd [] k)) = (prs t).map (·.2) := by simp [prs, Function.comp_def]
  rw [e1, e2] at h1 h2
  have h3 : objB (acc.map (·.1)) (acc.map (·.2)) = true := by
    rw [objB_iff] at h1 ⊢
    have hm := hp.map (·.1)
    exact ⟨by simp, hm.nodup_iff.2 h1.2.1, fun s hs => h1.2.2 s (hm.mem_iff.1 hs)⟩
  unfold obV
  rw [← h2]
  unfold objV
  rw [if_pos h3, if_pos h1, zip_fs, zip_fs, srt_of hp.symm (prs_rises h hk), srt_of (List.Perm.refl _) (prs_rises h hk)]
  simp only [List.length_map, hp.length_eq]
theorem prs_with {t x : Tr Nd} {nm : List UInt8} (hx : Val x) : prs (withT nm x t) = (loT nm t.ks).map (fun k => (k.nd.name, flat (nmd [] k))) ++ (nm, flat x) :: (hiT nm t.ks).map (fun k => (k.nd.name, flat (nmd [] k))) := by
  have e : (withT nm x t).ks = loT nm t.ks ++ ([nmd nm x] ++ hiT nm t.ks) := rfl
  unfold prs
  rw [e]
  simp only [List.map_append, List.map_cons, List.singleton_append, nmd_name, nmd_val hx]
theorem put_perm {t x : Tr Nd} {nm : List UInt8} (h : Val t) (hk : t.nd.kind = 6) (hx : Val x) {acc : List Pr} (hp : acc.Perm (prs t)) : (putP acc (nm, flat x)).Perm (prs (withT nm x t)) := by
  rw [prs_with hx]
  have hc := h.cut hk nm
  have hall : prs t = (loT nm t.ks).map (fun k => (k.nd.name, flat (nmd [] k))) ++ ((eqT nm t.ks).map (fun k => (k.nd.name, flat (nmd [] k))) ++ (hiT nm t.ks).map (fun k => (k.nd.name, flat (nmd [] k)))) := by
    unfold prs
    conv => lhs; rw [hc.all]
    simp
  have hlo : ∀ q ∈ (loT nm t.ks).map (fun k => ((k.nd.name, flat (nmd [] k)) : Pr)), ¬ q.1 = nm := by
    intro q hq
    obtain ⟨u, hu, rfl⟩ := List.mem_map.1 hq
    intro e
    have := hc.lo u hu
    simp only at e
    rw [e] at this
    exact List.lt_irrefl _ this
  have hhi : ∀ q ∈ (hiT nm t.ks).map (fun k => ((k.nd.name, flat (nmd [] k)) : Pr)), ¬ q.1 = nm := by
    intro q hq
    obtain ⟨u, hu, rfl⟩ := List.mem_map.1 hq
    intro e
    have := hc.hi u hu
    simp only at e
    rw [e] at this
    exact List.lt_irrefl _ this
  generalize (loT nm t.ks).map (fun k => ((k.nd.name, flat (nmd [] k)) : Pr)) = lo at hall hlo ⊢
  generalize (hiT nm t.ks).map (fun k => ((k.nd.name, flat (nmd [] k)) : Pr)) = hi at hall hhi ⊢
  have hone := hc.one
  have heq := hc.eq
  cases hm : eqT nm t.ks with
  | nil =>
    rw [hm] at hall
    simp only [List.map_nil, List.nil_append] at hall
    have hn : nm ∉ acc.map (·.1) := by
      intro hin
      have := (hp.map (·.1)).mem_iff.1 hin
      rw [hall] at this
      obtain ⟨q, hq, e⟩ := List.mem_map.1 this
      rcases List.mem_append.1 hq with hq | hq
      · exact hlo q hq e
      · exact hhi q hq e
    rw [putP_new _ _ hn]
    rw [hall] at hp
    exact (List.perm_append_singleton _ _).trans ((List.Perm.cons _ hp).trans List.perm_middle.symm)
  | cons u us =>
    rw [hm] at hall hone heq
    have hus : us = [] := by
      cases us with
      | nil => rfl
      | cons a b => simp at hone
    subst hus
    have hun : u.nd.name = nm := heq u (by simp)
    simp only [List.map_cons, List.map_nil, hun] at hall
    have hin : nm ∈ acc.map (·.1) := by
      refine (hp.map (·.1)).mem_iff.2 ?_
      rw [hall]; simp
    have e : putP acc (nm, flat x) = acc.map fun q => if q.1 = nm then (nm, flat x) else q := by
      unfold putP; rw [if_pos hin]
    rw [e]
    have h2 := hp.map (fun q => if q.1 = nm then ((nm, flat x) : Pr) else q)
    rw [hall] at h2
    have keep : ∀ l : List Pr, (∀ q ∈ l, ¬ q.1 = nm) → (l.map fun q => if q.1 = nm then ((nm, flat x) : Pr) else q) = l := by
      intro l hl
      conv => rhs; rw [← List.map_id l]
      exact List.map_congr_left fun q hq => by rw [if_neg (hl q hq)]; rfl
    rw [List.map_append, List.map_append, keep lo hlo, keep hi hhi] at h2
    simpa using h2
end Tp
end Go.Proofs.YtafbojiojeemoaaGreatDoor

/-
  What the document's own answer on escapes is.
-/
namespace Go.Proofs.YtafbojiojeemoaaGreatDoor
open Go.RowKit Np Up Qp

/-- What is told of an escape. -/
def esS : Option (Nat × Nat) → List UInt8
  | some x => Lib.encodeRune (x.1 : Int)
  | none => []
def esN : Option (Nat × Nat) → Int
  | some x => x.2
  | none => 0
theorem unI_none {x : Option Nat} (h : x = none) : unI x = -1 := by rw [h]; rfl
theorem unI_some {x : Option Nat} {a : Nat} (h : x = some a) : unI x = a := by rw [h]; rfl
theorem ret_two {a b : List UInt8} {x y : Int} (h : a = b) (k : x = y) : Ending.returned (.tuple #[.string ⟨a.toArray⟩, .int .i64 x]) = .returned (.tuple #[.string ⟨b.toArray⟩, .int .i64 y]) := by rw [h, k]

/-- The letters of the short escapes, and their runes. -/
def shF : ByteArray := ⟨#[34, 92, 47, 98, 102, 110, 114, 116]⟩
def shT : ByteArray := ⟨#[34, 92, 47, 8, 12, 10, 13, 9]⟩
theorem shF_size : shF.size = 8 := rfl
theorem shT_size : shT.size = 8 := rfl
theorem sh_hit : ∀ j : Fin 8, sh (shF[j.val]'(by rw [shF_size]; exact j.2)).toNat = some (shT[j.val]'(by rw [shT_size]; exact j.2)).toNat ∧ shT.extract j.val (j.val + 1) = ⟨(Lib.encodeRune ((shT[j.val]'(by rw [shT_size]; exact j.2)).toNat : Int)).toArray⟩ := by decide +kernel
theorem sh_miss (c : Nat) (h : ∀ j : Fin 8, c ≠ (shF[j.val]'(by rw [shF_size]; exact j.2)).toNat) : sh c = none := by
  have h0 : c ≠ 34 := h 0
  have h1 : c ≠ 92 := h 1
  have h2 : c ≠ 47 := h 2
  have h3 : c ≠ 98 := h 3
  have h4 : c ≠ 102 := h 4
  have h5 : c ≠ 110 := h 5
  have h6 : c ≠ 114 := h 6
  have h7 : c ≠ 116 := h 7
  simp [sh, h0, h1, h2, h3, h4, h5, h6, h7]

theorem sh_hit' (j : Nat) (h : j < shF.size) (h' : j < shT.size) : sh shF[j].toNat = some shT[j].toNat ∧ shT.extract j (j + 1) = ⟨(Lib.encodeRune (shT[j].toNat : Int)).toArray⟩ := sh_hit ⟨j, h⟩
theorem sh_miss' (c : Nat) (h : ∀ (j : Nat) (h : j < shF.size), c ≠ shF[j].toNat) : sh c = none := sh_miss c fun j => h j.val j.2

set_option maxRecDepth 100000 in
set_option maxHeartbeats 4000000 in
theorem refEscape_any (s : ByteArray) (i : Nat) (w : World) (hs : s.size ≤ 1073741824) (hi : i < s.size) :
    Calls Tryz.prog 140 #[.string s, .int .i64 i] w fun e w' => e = .returned (.tuple #[.string ⟨(esS (es (s.data.toList.drop i))).toArray⟩, .int .i64 (esN (es (s.data.toList.drop i)))]) ∧ Below w.heap.size w w' := by
  have hB : Below w.heap.size w w := Below.refl _ _
  by_cases h2 : i + 1 < s.size
  · have hb1 := bt_at' s i 1 (by omega)
    have hln : ¬ (s.data.toList.drop i).length < 2 := by rw [List.length_drop, size_toList]; omega
    have HES : Hid (∀ x, sh s[i + 1].toNat = some x → es (s.data.toList.drop i) = some (x, 2)) := Lib.hid (fun x hx => by rw [es, if_neg hln, hb1, hx])
    have HEN : Hid (sh s[i + 1].toNat = none → es (s.data.toList.drop i) = match un (s.data.toList.drop i) with
      | none => none
      | some a => if a < 55296 ∨ 57344 ≤ a then some (a, 6) else
        match un (s.data.toList.drop (i + 6)) with
        | none => none
        | some b => if a < 56320 ∧ 56320 ≤ b ∧ b < 57344 then some (pr a b, 12) else none) := Lib.hid (fun hx => by rw [es, if_neg hln, hb1, hx, List.drop_drop]; rfl)
    clear hb1 hln
    obtain ⟨F, T, hF8, hT8, HHIT, HMISS, hFd, hTd⟩ : ∃ F T : ByteArray, F.size = 8 ∧ T.size = 8 ∧ Hid (∀ (j : Nat) (h : j < F.size) (h' : j < T.size), sh F[j].toNat = some T[j].toNat ∧ T.extract j (j + 1) = ⟨(Lib.encodeRune (T[j].toNat : Int)).toArray⟩) ∧
      Hid (∀ c : Nat, (∀ (j : Nat) (h : j < F.size), c ≠ F[j].toNat) → sh c = none) ∧ F = ⟨#[34, 92, 47, 98, 102, 110, 114, 116]⟩ ∧ T = ⟨#[34, 92, 47, 8, 12, 10, 13, 9]⟩ := ⟨shF, shT, rfl, rfl, Lib.hid sh_hit', Lib.hid sh_miss', rfl, rfl⟩
    go_enter Tryz.func140, Tryz.ntmps140
    go_wp2
    rw [← hFd, ← hTd]
    clear hFd hTd
    go_loopw [8] (fun k wx => ∃ j : Nat, j ≤ 8 ∧ k = .int .i64 j ∧ Hid (∀ (m : Nat) (h : m < F.size), m < j → s[i + 1].toNat ≠ F[m].toNat) ∧ Below w.heap.size w wx) (fun k _ => 8 - (intOf k).toNat)
    case atStart => exact ⟨0, by omega, rfl, Lib.hid (fun m h hm => by omega), hB⟩
    case round =>
      obtain ⟨j, hj, rfl, HJ, hb⟩ := hrel
      by_cases hj8 : j < 8
      · have hwi : IntKind.i64.wrap ((i : Int) + 1) = (i : Int) + 1 := by rw [IntKind.wrap_i64]; omega
        have hjF : j < F.size := by omega
        have hjF' : (j : Int) < (F.size : Int) := by omega
        have hiS' : ((i : Int) + 1) < (s.size : Int) := by omega
        by_cases hm : s[i + 1].toNat = F[j].toNat
        · have hh := HHIT.out j hjF (by omega)
          rw [← hm] at hh
          obtain ⟨hh1, hh2⟩ := hh
          have HR := Lib.hid (HES.out _ hh1)
          have HT := Lib.hid hh2
          have hme : ((s[i + 1].toNat : Int) == (F[j].toNat : Int)) = true := by rw [beq_iff_eq]; omega
          clear hh1 hh2 hm
          go_wp2_with fail
          have h01 : (0 : Int) ≤ (i : Int) + 1 := by omega
          go_quiet (fail)
          go_wp2_with fail
          go_ret2
          refine ⟨?_, hb.trans (below_quiet ⟨_, rfl⟩ |>.mono hb.size)⟩
          rw [HR.out, HT.out]
          rfl
        · have hme : ((s[i + 1].toNat : Int) == (F[j].toNat : Int)) = false := by rw [beq_eq_false_iff_ne]; omega
          have HJ' : Hid (∀ (m : Nat) (h : m < F.size), m < j + 1 → s[i + 1].toNat ≠ F[m].toNat) := Lib.hid (fun m h hmj => by
            rcases Nat.lt_or_ge m j with h1 | h1
            · exact HJ.out m h h1
            · obtain rfl : m = j := by omega
              exact hm)
          clear hm HJ
          go_wp2_with fail
          have h01 : (0 : Int) ≤ (i : Int) + 1 := by omega
          go_quiet (fail)
          go_wp2_with fail
          go_roundw
          case rel => exact ⟨j + 1, by omega, by go_num, HJ', hb.trans (below_quiet ⟨_, rfl⟩ |>.mono hb.size)⟩
          case measure => simp [intOf]; omega
      · have hsh := HMISS.out s[i + 1].toNat (fun m h => HJ.out m h (by omega))
        have HE := Lib.hid (HEN.out hsh)
        clear hsh HEN HES HHIT HMISS HJ
        obtain rfl : j = 8 := by omega
        cases hu : un (s.data.toList.drop i) with
        | none =>
          have HU := Lib.hid (unI_none hu)
          have HE2 : Hid (es (s.data.toList.drop i) = none) := Lib.hid (by rw [HE.out, hu])
          clear hu HE
          go_wp2_with (go_at_call 169; refine (refUnit_any s i _ hs (by omega)).mono ?_; rintro e w' ⟨rfl, rfl⟩; rw [HU.out])
          all_goals go_ret2
          all_goals exact ⟨by rw [HE2.out]; rfl, hb⟩
        | some a =>
          obtain ⟨u1, u2, -, -, -⟩ := un_some hu
          have HU := Lib.hid (unI_some hu)
          have HE1 := HE.out
          rw [hu] at HE1
          clear hu HE
          have HU' := HU.out
          clear HU
          obtain ⟨x, hx⟩ : ∃ x : Int, x = (a : Int) := ⟨_, rfl⟩
          rw [← hx] at HU'
          have HU := Lib.hid HU'
          have hx0 : 0 ≤ x := by omega
          have hx1 : x < 65536 := by omega
          clear HU'
          by_cases hr : a < 55296 ∨ 57344 ≤ a
          · have HE2 : Hid (es (s.data.toList.drop i) = some (a, 6)) := Lib.hid (HE1.trans (if_pos hr))
            have hr' : x < 55296 ∨ 57343 < x := by omega
            have HR := Lib.hid hr'
            have HXA := Lib.hid hx
            have c0 : ¬ x < 0 := by omega
            have hsur : ((decide ((56320 : Int) ≤ x) && decide (x < 57344))) = false := by
              rw [Bool.and_eq_false_iff, decide_eq_false_iff_not, decide_eq_false_iff_not]; omega
            have hsur2 : (decide (x < 55296) || decide ((57344 : Int) ≤ x)) = true := by
              rw [Bool.or_eq_true, decide_eq_true_eq, decide_eq_true_eq]; omega
            clear HE1 hr hr' hx u2
            go_wp2_with fail
            refine (refUnit_any s i _ hs (by omega)).mono ?_
            rintro e w' ⟨rfl, rfl⟩
            rw [HU.out]
            go_wp2_with (go_at_call 170; refine (refUtf_code _ _ (by omega) (by omega) HR.out).mono ?_; rintro e w' ⟨rfl, hb2⟩)
            all_goals go_ret2
            all_goals first
              | (refine ⟨?_, hb.trans (hb2.mono hb.size)⟩
                 rw [HE2.out]
                 show _ = Ending.returned (.tuple #[.string ⟨(Lib.encodeRune (a : Int)).toArray⟩, .int .i64 6])
                 rw [← HXA.out]
                 rfl)
              | (exfalso; have := HR.out; go_light; simp at *; omega)
          · have hxr : 55296 ≤ x ∧ x < 57344 := by omega
            have HER := Lib.hid (HE1.trans (if_neg hr))
            have c0 : ¬ x < 0 := by omega
            obtain ⟨hx2, hx3⟩ := hxr
            clear HE1 hr u2 hx0 hx1
            by_cases hlo : 56320 ≤ x
            · have HE2 : Hid (es (s.data.toList.drop i) = none) := Lib.hid (by
                rw [HER.out]
                split
                · rfl
                · rw [if_neg (by omega)])
              have hsur : ((decide ((56320 : Int) ≤ x) && decide (x < 57344))) = true := by
                rw [Bool.and_eq_true, decide_eq_true_eq, decide_eq_true_eq]; omega
              clear HER hx
              go_wp2_with fail
              refine (refUnit_any s i _ hs (by omega)).mono ?_
              rintro e w' ⟨rfl, rfl⟩
              rw [HU.out]
              go_wp2_with fail
              go_ret2
              refine ⟨?_, hb⟩
              rw [HE2.out]
              rfl
            · have hsur : ((decide ((56320 : Int) ≤ x) && decide (x < 57344))) = false := by
                rw [Bool.and_eq_false_iff, decide_eq_false_iff_not, decide_eq_false_iff_not]; omega
              have hsur2 : (decide (x < 55296) || decide ((57344 : Int) ≤ x)) = false := by
                rw [Bool.or_eq_false_iff, decide_eq_false_iff_not, decide_eq_false_iff_not]; omega
              have HUB : Hid (∀ w : World, Calls Tryz.prog 169 #[.string s, .int .i64 ((i : Int) + 6)] w fun e w' => e = .returned (.int .i64 (unI (un (s.data.toList.drop (i + 6))))) ∧ w = w') := Lib.hid (fun w => refUnit_any s (i + 6) w hs (by omega))
              cases hu2 : un (s.data.toList.drop (i + 6)) with
              | none =>
                have HE2 : Hid (es (s.data.toList.drop i) = none) := Lib.hid (by rw [HER.out, hu2])
                have HU2 := Lib.hid (unI_none hu2)
                clear HER hu2 hx
                go_wp2_with fail
                refine (refUnit_any s i _ hs (by omega)).mono ?_
                rintro e w' ⟨rfl, rfl⟩
                rw [HU.out]
                go_wp2_with fail
                refine (HUB.out _).mono ?_
                rintro e w' ⟨rfl, rfl⟩
                rw [HU2.out]
                go_wp2_with fail
                all_goals go_ret2
                all_goals exact ⟨by rw [HE2.out]; rfl, hb⟩
              | some b =>
                obtain ⟨v1, v2, -, -, -⟩ := un_some hu2
                have HE3 := HER.out
                rw [hu2] at HE3
                have HU3 := unI_some hu2
                obtain ⟨y, hy⟩ : ∃ y : Int, y = (b : Int) := ⟨_, rfl⟩
                rw [← hy] at HU3
                have HU2 := Lib.hid HU3
                have hy0 : 0 ≤ y := by omega
                have hy1 : y < 65536 := by omega
                by_cases hyr : 56320 ≤ y ∧ y < 57344
                · have HE2 : Hid (es (s.data.toList.drop i) = some (pr a b, 12)) := Lib.hid (HE3.trans (if_pos (by omega)))
                  have HXA : Hid (((pr a b : Nat) : Int) = 65536 + 1024 * (x - 55296) + y - 56320) := Lib.hid (by unfold pr; omega)
                  obtain ⟨hyr1, hyr2⟩ := hyr
                  have hysur : ((decide (y < (56320 : Int)) || decide ((57344 : Int) ≤ y))) = false := by
                    rw [Bool.or_eq_false_iff, decide_eq_false_iff_not, decide_eq_false_iff_not]; omega
                  clear HER hu2 hx hy HE3 HU3 v2
                  go_wp2_with fail
                  refine (refUnit_any s i _ hs (by omega)).mono ?_
                  rintro e w' ⟨rfl, rfl⟩
                  rw [HU.out]
                  go_wp2_with fail
                  refine (HUB.out _).mono ?_
                  rintro e w' ⟨rfl, rfl⟩
                  rw [HU2.out]
                  go_wp2_with (go_at_call 170; refine (refUtf_code _ _ (by omega) (by omega) (by omega)).mono ?_; rintro e w' ⟨rfl, hb2⟩)
                  all_goals go_ret2
                  all_goals (refine ⟨?_, hb.trans (hb2.mono hb.size)⟩)
                  all_goals (rw [HE2.out])
                  all_goals (show _ = Ending.returned (.tuple #[.string ⟨(Lib.encodeRune (pr a b : Nat)).toArray⟩, .int .i64 12]))
                  all_goals (rw [HXA.out]; rfl)
                · have HE2 : Hid (es (s.data.toList.drop i) = none) := Lib.hid (HE3.trans (if_neg (by omega)))
                  have hysur : ((decide (y < (56320 : Int)) || decide ((57344 : Int) ≤ y))) = true := by
                    rw [Bool.or_eq_true, decide_eq_true_eq, decide_eq_true_eq]; omega
                  clear HER hu2 hx hy HE3 HU3 v2 hyr
                  go_wp2_with fail
                  refine (refUnit_any s i _ hs (by omega)).mono ?_
                  rintro e w' ⟨rfl, rfl⟩
                  rw [HU.out]
                  go_wp2_with fail
                  refine (HUB.out _).mono ?_
                  rintro e w' ⟨rfl, rfl⟩
                  rw [HU2.out]
                  go_wp2_with (go_at_call 170; exfalso; go_light; simp at *; omega)
                  all_goals go_ret2
                  all_goals exact ⟨by rw [HE2.out]; rfl, hb⟩
  · have HE : Hid (es (s.data.toList.drop i) = none) := Lib.hid (by
      rw [es, if_pos (by rw [List.length_drop, size_toList]; omega)])
    go_enter Tryz.func140, Tryz.ntmps140
    go_wp2
    go_ret2
    refine ⟨?_, hB⟩
    rw [HE.out]
    rfl
end Go.Proofs.YtafbojiojeemoaaGreatDoor

/-
  What the document's own answers on strings that are written are: taken, Unquote.
-/
namespace Go.Proofs.YtafbojiojeemoaaGreatDoor
open Go.RowKit Np Up Qp

/-- What is told of what stands at a place. -/
def tkS : Option (List UInt8 × Nat) → List UInt8
  | some x => x.1
  | none => []
def tkN : Option (List UInt8 × Nat) → Int
  | some x => x.2
  | none => 0

theorem ext_run (s : ByteArray) (i r : Nat) : s.extract i (i + r) = ⟨((s.data.toList.drop i).take r).toArray⟩ := by
  have h := Lib.extract_toList s i (i + r)
  rw [ByteArray.toList_eq, Nat.add_sub_cancel_left] at h
  rw [← h]

set_option maxRecDepth 100000 in
set_option maxHeartbeats 4000000 in
theorem refTaken_any (s : ByteArray) (i : Nat) (w : World) (hs : s.size ≤ 1073741824) (hi : i < s.size) (hlow : s[i].toNat = 92 ∨ 32 ≤ s[i].toNat) :
    Calls Tryz.prog 99 #[.string s, .int .i64 i] w fun e w' => e = .returned (.tuple #[.string ⟨(tkS (tk (s.data.toList.drop i))).toArray⟩, .int .i64 (tkN (tk (s.data.toList.drop i)))]) ∧ Below w.heap.size w w' := by
  have hB : Below w.heap.size w w := Below.refl _ _
  have hs' : s.size ≤ maxLen := by unfold maxLen; omega
  have hb0 : bt (s.data.toList.drop i) 0 = s[i].toNat := bt_at' s i 0 (by omega)
  by_cases h92 : s[i].toNat = 92
  · have HT : Hid (tk (s.data.toList.drop i) = (es (s.data.toList.drop i)).map fun x => (Lib.encodeRune (x.1 : Int), x.2)) := Lib.hid (by rw [tk, if_pos (by rw [hb0, h92])])
    have hq : ((s[i].toNat : Int) == 92) = true := by rw [beq_iff_eq]; omega
    clear hb0 h92 hlow
    go_enter Tryz.func99, Tryz.ntmps99
    go_wp2_with (go_at_call 140; refine (refEscape_any s i _ hs hi).mono ?_; rintro e w' ⟨rfl, hb2⟩)
    go_ret2
    refine ⟨?_, hb2⟩
    rw [HT.out]
    cases es (s.data.toList.drop i) <;> rfl
  · have hne : s.data.toList.drop i ≠ [] := by intro h; have := congrArg List.length h; simp at this; omega
    have hle := runeN_le _ hne
    rw [List.length_drop, size_toList] at hle
    have hl32 : ¬ bt (s.data.toList.drop i) 0 < 32 := by rw [hb0]; omega
    have hT0 : tk (s.data.toList.drop i) = if runeN (s.data.toList.drop i) = 0 then none else some ((s.data.toList.drop i).take (runeN (s.data.toList.drop i)), runeN (s.data.toList.drop i)) := by
      rw [tk, if_neg (by rw [hb0]; exact h92)]
      by_cases h0 : runeN (s.data.toList.drop i) = 0
      · rw [if_pos (.inr h0), if_pos h0]
      · rw [if_neg (fun h => h.elim hl32 h0), if_neg h0]
    have hq : ((s[i].toNat : Int) == 92) = false := by rw [beq_eq_false_iff_ne]; omega
    generalize hr : runeN (s.data.toList.drop i) = r at hT0 hle
    have HRN := Lib.hid hr
    have HT := Lib.hid hT0
    clear hb0 h92 hlow hr hT0 hl32 hne
    go_enter Tryz.func99, Tryz.ntmps99
    go_wp2_with (go_at_call 75; refine (refRune_any _ _ _ hs' hi).mono ?_; rintro e w' ⟨rfl, rfl⟩; rw [HRN.out])
    go_ret2
    refine ⟨?_, hB⟩
    rw [HT.out]
    show Ending.returned (.tuple #[.string (s.extract i (i + r)), .int .i64 (r : Int)]) = _
    rw [ext_run]
    by_cases h0 : r = 0
    · subst h0
      rw [if_pos rfl]
      rfl
    · rw [if_neg h0]
      rfl

theorem tk_len {l p : List UInt8} {n : Nat} (h : tk l = some (p, n)) : p.length ≤ n + 2 := by
  unfold tk at h
  split at h
  · cases he : es l with
    | none => rw [he] at h; cases h
    | some x =>
      obtain ⟨r, m⟩ := x
      rw [he] at h
      simp at h
      obtain ⟨h1, h2⟩ := h
      obtain ⟨_, _, h4, _⟩ := es_some he
      have h5 := (Lib.encodeRuneZ_length (r : Int)).2
      rw [← h1, ← h2, Lib.encodeRune, List.length_map]
      omega
  · split at h
    · cases h
    · injection h with h
      injection h with e1 e2
      rw [← e1, ← e2, List.length_take]
      omega
set_option maxRecDepth 100000 in
set_option maxHeartbeats 4000000 in
theorem refTaken_low (s : ByteArray) (i : Nat) (w : World) (hs : s.size ≤ 1073741824) (hi : i < s.size) (hlo : s[i].toNat < 32) :
    Calls Tryz.prog 99 #[.string s, .int .i64 i] w fun e w' => e = .returned (.tuple #[.string (s.extract i (i + 1)), .int .i64 1]) ∧ Below w.heap.size w w' := by
  have hB : Below w.heap.size w w := Below.refl _ _
  have hs' : s.size ≤ maxLen := by unfold maxLen; omega
  have hb0 : bt (s.data.toList.drop i) 0 = s[i].toNat := bt_at' s i 0 (by omega)
  have hq : ((s[i].toNat : Int) == 92) = false := by rw [beq_eq_false_iff_ne]; omega
  have HRN := Lib.hid (runeN_one (l := s.data.toList.drop i) (by omega))
  clear hb0
  go_enter Tryz.func99, Tryz.ntmps99
  go_wp2_with (go_at_call 75; refine (refRune_any _ _ _ hs' hi).mono ?_; rintro e w' ⟨rfl, rfl⟩; rw [HRN.out])
  all_goals go_ret2
  all_goals exact ⟨rfl, hB⟩
theorem tk_low {l : List UInt8} (h : bt l 0 < 32) : tk l = none := by
  rw [tk, if_neg (by omega), if_pos (.inl h)]

set_option maxRecDepth 100000 in
set_option maxHeartbeats 4000000 in
theorem refUnquote_any (s : ByteArray) (w : World) (hs : s.size ≤ 1073741824) :
    Calls Tryz.prog 61 #[.string s] w fun e w' => e = .returned (uqv (unqs s.data.toList)) ∧ Below w.heap.size w w' := by
  have hB : Below w.heap.size w w := Below.refl _ _
  by_cases h0 : 0 < s.size
  · have hb0 := bt_at s 0 h0
    by_cases h34 : s[0].toNat = 34
    · have HF : Hid (unqs s.data.toList = unq [] (s.data.toList.drop 1) 1) := Lib.hid (by rw [unqs, if_pos (by rw [hb0, h34])])
      have hq : ((s[0].toNat : Int) != 34) = false := by rw [bne_eq_false_iff_eq]; omega
      have hz : s.toList.isEmpty = false := by
        rw [ByteArray.toList_eq, List.isEmpty_eq_false_iff]; intro h; have h' := congrArg List.length h; rw [size_toList, List.length_nil] at h'; omega
      clear hb0 h34
      generalize unqs s.data.toList = R at HF ⊢
      go_enter Tryz.func61, Tryz.ntmps61
      go_wp2
      go_loopw [5, 6] (fun o i wx => ∃ (k : Nat) (out : List UInt8), k ≤ s.size ∧ i = .int .i64 k ∧ o = .string ⟨out.toArray⟩ ∧ out.length ≤ 4 * k ∧ Hid (unq out (s.data.toList.drop k) k = R) ∧ Below w.heap.size w wx) (fun _ i _ => s.size - (intOf i).toNat)
      case atStart => exact ⟨1, [], by omega, rfl, rfl, by simp, Lib.hid HF.out.symm, hB⟩
      case round =>
        obtain ⟨k, out, hk, rfl, rfl, hol, HR, hb⟩ := hrel
        by_cases hlt : k < s.size
        · have hbk := bt_at' s k 0 (by omega)
          simp only [Nat.add_zero] at hbk
          have hne : s.data.toList.drop k ≠ [] := by intro h; have h' := congrArg List.length h; simp at h'; omega
          by_cases h34 : s[k].toNat = 34
          · have HE : Hid (R = (out, k + 1, 0)) := Lib.hid (by rw [← HR.out, unq_mark _ _ (by rw [hbk, h34])])
            have hqk : ((s[k].toNat : Int) == 34) = true := by rw [beq_iff_eq]; omega
            clear hbk hne HR HF h34
            go_wp2
            all_goals go_ret3
            all_goals exact ⟨by rw [HE.out]; rfl, hb⟩
          have hqk : ((s[k].toNat : Int) == 34) = false := by rw [beq_eq_false_iff_ne]; omega
          by_cases hlo : s[k].toNat < 32
          · have HE : Hid (R = ([], k, 1)) := Lib.hid (by rw [← HR.out, unq_bad _ _ (by rw [hbk]; exact h34) (tk_low (by rw [hbk]; exact hlo))])
            clear hbk hne HR HF h34
            go_wp2_with (go_at_call 99; refine (refTaken_low s k _ hs hlt hlo).mono ?_; rintro e w' ⟨rfl, hb2⟩)
            all_goals go_ret3
            all_goals exact ⟨by rw [HE.out]; rfl, hb.trans (hb2.mono hb.size)⟩
          cases ht : tk (s.data.toList.drop k) with
          | none =>
            have HE : Hid (R = ([], k, 1)) := Lib.hid (by rw [← HR.out, unq_bad _ _ (by rw [hbk]; exact h34) ht])
            have HT := Lib.hid ht
            have hlow : Hid (s[k].toNat = 92 ∨ 32 ≤ s[k].toNat) := Lib.hid (by omega)
            clear hbk hne HR HF h34 ht
            go_wp2_with (go_at_call 99; refine (refTaken_any s k _ hs hlt hlow.out).mono ?_; rintro e w' ⟨rfl, hb2⟩; rw [HT.out, tkS, tkN])
            all_goals go_ret3
            all_goals exact ⟨by rw [HE.out]; rfl, hb.trans (hb2.mono hb.size)⟩
          | some x =>
            obtain ⟨p, n⟩ := x
            obtain ⟨hn1, hn2⟩ := tk_some hne ht
            rw [List.length_drop, size_toList] at hn2
            have hpl := tk_len ht
            have HE : Hid (unq (out ++ p) (s.data.toList.drop (k + n)) (k + n) = R) := Lib.hid (by rw [← HR.out, unq_step _ _ hne (by rw [hbk]; exact h34) ht, List.drop_drop])
            have HT := Lib.hid ht
            have hn0 : ((n : Int) == 0) = false := by rw [beq_eq_false_iff_ne]; omega
            have hlow : Hid (s[k].toNat = 92 ∨ 32 ≤ s[k].toNat) := Lib.hid (by omega)
            clear hbk hne HR HF h34 ht
            go_wp2_with (go_at_call 99; refine (refTaken_any s k _ hs hlt hlow.out).mono ?_; rintro e w' ⟨rfl, hb2⟩; rw [HT.out, tkS, tkN])
            go_roundw
            case rel => exact ⟨k + n, out ++ p, by omega, by go_num, rfl, by rw [List.length_append]; omega, HE, hb.trans (hb2.mono hb.size)⟩
            case measure => simp [intOf]; omega
        · have HE : Hid (R = ([], s.size, 1)) := Lib.hid (by
            rw [← HR.out, List.drop_of_length_le (by simp; omega), unq_nil, show k = s.size by omega])
          clear HR HF
          go_wp2
          all_goals go_ret3
          all_goals exact ⟨by rw [HE.out]; rfl, hb⟩
    · have HF : Hid (unqs s.data.toList = ([], 0, 1)) := Lib.hid (by rw [unqs, if_neg (by rw [hb0]; exact h34)])
      have hq : ((s[0].toNat : Int) != 34) = true := by rw [bne_iff_ne]; omega
      have hz : s.toList.isEmpty = false := by
        rw [ByteArray.toList_eq, List.isEmpty_eq_false_iff]; intro h; have h' := congrArg List.length h; rw [size_toList, List.length_nil] at h'; omega
      clear hb0 h34
      go_enter Tryz.func61, Tryz.ntmps61
      go_wp2
      all_goals go_ret3
      all_goals exact ⟨by rw [HF.out]; rfl, hB⟩
  · obtain rfl : s = ⟨#[]⟩ := by
      obtain ⟨⟨l⟩⟩ := s
      cases l with
      | nil => rfl
      | cons _ _ => simp [ByteArray.size] at h0
    have HF : Hid (unqs (ByteArray.mk #[]).data.toList = ([], 0, 1)) := Lib.hid rfl
    go_enter Tryz.func61, Tryz.ntmps61
    go_wp2
    all_goals go_ret3
    all_goals exact ⟨by rw [HF.out]; rfl, hB⟩
end Go.Proofs.YtafbojiojeemoaaGreatDoor

/-
  What val.find answers.
-/
namespace Go.Proofs.YtafbojiojeemoaaGreatDoor
open Go.RowKit Go.Shelf Np Rw Vp
attribute [local go_sem] Oper.semAt_some

theorem then_no {K : Act → World → Prop} {Q : Exit → Act → World → Prop} (h : ¬ LetsOut Q) : ¬ LetsOut (Exit.then K Q) := fun ⟨a, w, hq⟩ => h ⟨a, w, hq⟩

def lenP {L : List Nd} (pre : List (Pt L)) : Nat := (flats (pre.map fun x => x.1.2)).length
theorem lenP_snoc {L : List Nd} (pre : List (Pt L)) (x : Pt L) : lenP (pre ++ [x]) = lenP pre + (flat x.1.2).length := by simp [lenP, flats_append]
theorem pt_len {L : List Nd} (x : Pt L) : (flat x.1.2).length ≤ L.length := by
  obtain ⟨⟨p, u⟩, h1, r, h2⟩ := x
  have hq : p + (flat u).length ≤ L.length := part_lt h2
  show (flat u).length ≤ _
  omega
theorem lenP_le {L : List Nd} : ∀ pre : List (Pt L), lenP pre ≤ pre.length * L.length
  | [] => by simp [lenP]
  | x :: pre => by
    have h1 := lenP_le pre
    have h2 := pt_len x
    have h3 : lenP (x :: pre) = (flat x.1.2).length + lenP pre := by simp [lenP]
    rw [h3, List.length_cons, Nat.add_mul]
    omega

/-- Between two rounds of find. -/
def FI {L : List Nd} (nm : List UInt8) (w : World) (pre : List (Pt L)) (W : World) : Prop :=
  ((∀ y ∈ pre, passes nm y.1.2) ∧ Boxed W w.heap.size 9 (.string ⟨nm.toArray⟩) ∧ Boxed W (w.heap.size + 1) 3 (.int .i64 0) ∧ Boxed W (w.heap.size + 1 + 1) 3 (.int .i64 0) ∧ Boxed W (w.heap.size + 1 + 1 + 1) 3 (.int .i64 (1 + lenP pre : Nat))) ∧ Below w.heap.size w W
/-- Where a round of find has left. -/
def FX {L : List Nd} (nm : List UInt8) (w : World) (c : Code) (pre : List (Pt L)) (W : World) : Prop :=
  ((c = .ret ∧ ∃ p y, pre = p ++ [y] ∧ (∀ z ∈ p, passes nm z.1.2) ∧ y.1.2.nd.name = nm ∧ Boxed W (w.heap.size + 1) 3 (.int .i64 (1 + lenP p : Nat)) ∧ Boxed W (w.heap.size + 1 + 1) 3 (.int .i64 (1 + lenP p + (flat y.1.2).length : Nat))) ∨
   (c = .exit 0 ∧ ∃ p y, pre = p ++ [y] ∧ (∀ z ∈ p, passes nm z.1.2) ∧ nm < y.1.2.nd.name ∧ Boxed W (w.heap.size + 1) 3 (.int .i64 0) ∧ Boxed W (w.heap.size + 1 + 1) 3 (.int .i64 0) ∧ Boxed W (w.heap.size + 1 + 1 + 1) 3 (.int .i64 (1 + lenP p : Nat)))) ∧ Below w.heap.size w W
theorem FI.own {L : List Nd} (nm : List UInt8) (w : World) (B : Nat) (hB : w.heap.size ≤ B) : OwnFrom B (FI (L := L) nm w) := by
  intro s W W' row hs hg hr
  obtain ⟨⟨h0, h1, h2, h3, h4⟩, h5⟩ := hs
  have hr' : ∀ r, row = some r → ∃ o : Obj, W.heap[r]? = some o ∧ o.isCells = false := fun r e => (hr r e).2
  exact ⟨⟨h0, boxed_turned h1 hg hr', boxed_turned h2 hg hr', boxed_turned h3 hg hr', boxed_turned h4 hg hr'⟩, ownFrom_below (β := Unit) (Nat.le_refl _) hB () W W' row h5 hg hr⟩
theorem FX.own {L : List Nd} (nm : List UInt8) (w : World) (c : Code) (B : Nat) (hB : w.heap.size ≤ B) : OwnFrom B (FX (L := L) nm w c) := by
  intro s W W' row hs hg hr
  obtain ⟨hs, h5⟩ := hs
  have hr' : ∀ r, row = some r → ∃ o : Obj, W.heap[r]? = some o ∧ o.isCells = false := fun r e => (hr r e).2
  refine ⟨?_, ownFrom_below (β := Unit) (Nat.le_refl _) hB () W W' row h5 hg hr⟩
  rcases hs with ⟨hc, p, y, h1, h2, h3, h4, h5⟩ | ⟨hc, p, y, h1, h2, h3, h4, h5, h6⟩
  · exact .inl ⟨hc, p, y, h1, h2, h3, boxed_turned h4 hg hr', boxed_turned h5 hg hr'⟩
  · exact .inr ⟨hc, p, y, h1, h2, h3, boxed_turned h4 hg hr', boxed_turned h5 hg hr', boxed_turned h6 hg hr'⟩

end Go.Proofs.YtafbojiojeemoaaGreatDoor

/-
  What val's Field answers.
-/
namespace Go.Proofs.YtafbojiojeemoaaGreatDoor
open Go.RowKit Np Rw Vp

/-- An object's part of that name, if there is one. -/
def midT (nm : List UInt8) (t : Tr Nd) : List (Tr Nd) := if t.nd.kind = 6 then t.ks.filter (fun u => decide (u.nd.name = nm)) else []
def fieldB (nm : List UInt8) (t : Tr Nd) : Bool := !(midT nm t).isEmpty
def fieldV (nm : List UInt8) (t : Tr Nd) : List Nd := match midT nm t with | [] => [] | u :: _ => flat (nmd [] u)
theorem midT_cut {nm : List UInt8} {t : Tr Nd} {pre mid post : List (Tr Nd)} (hk : t.nd.kind = 6) (h : Cut nm t.ks pre mid post) : midT nm t = mid := by
  have hlt : ∀ {a b : List UInt8}, a < b → ¬ a = b := fun h1 h2 => List.lt_irrefl _ (h2 ▸ h1)
  rw [midT, if_pos hk, h.all, List.filter_append, List.filter_append, List.filter_eq_nil_iff.2 (fun u hu => by simpa using hlt (h.lo u hu)), List.filter_eq_self.2 (fun u hu => by simpa using h.eq u hu),
    List.filter_eq_nil_iff.2 (fun u hu => by simpa using fun e => hlt (h.hi u hu) e.symm)]
  simp
/-- What val.Field hands back. -/
def GivesF (w : World) (nm : List UInt8) (t : Tr Nd) (e : Ending) (w' : World) : Prop := ∃ v', e = .returned (.tuple #[v', .bool (fieldB nm t)]) ∧ Nds w' v' (fieldV nm t) ∧ Below w.heap.size w w'
theorem GivesF.no {w w' : World} {nm : List UInt8} {t : Tr Nd} {e : Ending} (h : midT nm t = []) (he : e = .returned (.tuple #[.slice none 0 0, .bool false])) (hb : Below w.heap.size w w') : GivesF w nm t e w' :=
  ⟨_, by rw [fieldB, h]; exact he, by rw [fieldV, h]; exact Row.nil _, hb⟩

end Go.Proofs.YtafbojiojeemoaaGreatDoor

/-
  How long a slice is. Of no function.
-/
namespace Go.Proofs.YtafbojiojeemoaaGreatDoor
open Go.RowKit
/-- How long a slice is. -/
def lenOf : Value → Nat
  | .slice _ n _ => n
  | _ => 0
end Go.Proofs.YtafbojiojeemoaaGreatDoor

/-
  Plain words: the places of names, the least one first, one by one. No program stands here.
-/
namespace Go.Proofs.YtafbojiojeemoaaGreatDoor
open Go.RowKit Np Rw Vp

/-- So far these have been chosen. -/
structure Sel (names : List (List UInt8)) (p : List Nat) : Prop where
  nodup : p.Nodup
  lt : ∀ i ∈ p, i < names.length
  strict : (p.map (atN names)).Pairwise (· < ·)
  vl : ∀ i ∈ p, vld (atN names i) = true
  low : ∀ i ∈ p, ∀ j, j < names.length → j ∉ p → ¬ atN names j < atN names i
/-- The least one of those that are left, among the first ones. -/
def Least (names : List (List UInt8)) (p : List Nat) (k b : Nat) : Prop := b < k ∧ b ∉ p ∧ ∀ j, j < k → j ∉ p → ¬ atN names j < atN names b
theorem Sel.nil (names : List (List UInt8)) : Sel names [] := ⟨List.nodup_nil, by simp, by simp, by simp, by simp⟩
theorem Least.keep {names : List (List UInt8)} {p : List Nat} {k b : Nat} (h : Least names p k b) (hk : k ∈ p ∨ ¬ atN names k < atN names b) : Least names p (k + 1) b := by
  refine ⟨by have := h.1; omega, h.2.1, fun j hj hjp => ?_⟩
  by_cases e : j = k
  · subst e
    rcases hk with hk | hk
    · exact absurd hk hjp
    · exact hk
  · exact h.2.2 j (by omega) hjp
theorem Least.less {names : List (List UInt8)} {p : List Nat} {k b : Nat} (h : Least names p k b) (hk : k ∉ p) (hl : atN names k < atN names b) : Least names p (k + 1) k := by
  refine ⟨by omega, hk, fun j hj hjp hlt => ?_⟩
  by_cases e : j = k
  · subst e; exact List.lt_irrefl _ hlt
  · exact h.2.2 j (by omega) hjp (List.lt_trans hlt hl)
theorem Least.first {names : List (List UInt8)} {p : List Nat} {k : Nat} (h : ∀ j, j < k → j ∈ p) (hk : k ∉ p) : Least names p (k + 1) k := by
  refine ⟨by omega, hk, fun j hj hjp hlt => ?_⟩
  by_cases e : j = k
  · subst e; exact List.lt_irrefl _ hlt
  · exact hjp (h j (by omega))
theorem pig : ∀ (n : Nat) (p : List Nat), p.Nodup → (∀ i ∈ p, i < n) → p.length ≤ n ∧ (p.length = n → ∀ j, j < n → j ∈ p)
  | 0, p, _, h => by
    have : p = [] := by
      cases p with
      | nil => rfl
      | cons a p => exact absurd (h a (by simp)) (by omega)
    subst this
    exact ⟨Nat.le_refl _, fun _ j hj => absurd hj (by omega)⟩
  | n + 1, p, hn, h => by
    by_cases hm : n ∈ p
    · have h1 := pig n (p.erase n) (hn.erase n) (fun i hi => by
        have h2 := (List.Nodup.mem_erase_iff hn).1 hi
        have := h i h2.2
        have := h2.1
        omega)
      have hl := List.length_erase_of_mem hm
      have hp : 0 < p.length := List.length_pos_of_mem hm
      refine ⟨by omega, fun he j hj => ?_⟩
      by_cases e : j = n
      · subst e; exact hm
      · exact List.mem_of_mem_erase (h1.2 (by omega) j (by omega))
    · have h1 := pig n p hn (fun i hi => by
        have := h i hi
        have : i ≠ n := fun e => hm (e ▸ hi)
        omega)
      exact ⟨by omega, fun he => absurd he (by omega)⟩
theorem Sel.len {names : List (List UInt8)} {p : List Nat} (h : Sel names p) : p.length ≤ names.length := (pig _ p h.nodup h.lt).1
theorem Sel.all {names : List (List UInt8)} {p : List Nat} (h : Sel names p) (hl : p.length = names.length) : p.Perm (List.range names.length) := by
  refine (List.perm_ext_iff_of_nodup h.nodup List.nodup_range).2 fun a => ⟨fun ha => by simpa using h.lt a ha, fun ha => (pig _ p h.nodup h.lt).2 hl a (by simpa using ha)⟩
theorem Sel.some {names : List (List UInt8)} {p : List Nat} (h : Sel names p) (hl : p.length < names.length) : ¬ ∀ j, j < names.length → j ∈ p := by
  intro hall
  have h1 : (List.range names.length).length ≤ p.length := by
    have hp : (List.range names.length).Perm (p.filter (fun i => decide (i < names.length))) := (List.perm_ext_iff_of_nodup List.nodup_range (h.nodup.filter _)).2 fun a => by
      simp only [List.mem_range, List.mem_filter, decide_eq_true_eq]
      exact ⟨fun ha => ⟨hall a ha, ha⟩, fun ha => ha.2⟩
    rw [hp.length_eq]
    exact List.length_filter_le _ _
  simp at h1
  omega
theorem Sel.places {names : List (List UInt8)} {p : List Nat} (h : Sel names p) (hl : p.length = names.length) : Places names p := by
  refine ⟨h.all hl, ?_⟩
  have := List.pairwise_map.1 h.strict
  exact this.imp fun {a b} hab hba => List.lt_irrefl _ (List.lt_trans hab hba)
theorem Sel.done {names : List (List UInt8)} {L : List (List Nd)} {p : List Nat} (h : Sel names p) (hl : p.length = names.length) (hL : names.length = L.length) :
    objB names L = true ∧ objV names L = hdN 6 L.length :: laid ((p.map (atN names)).zip (p.map (atL L))) := by
  have hp := h.places hl
  have hnd : names.Nodup := by
    have : (p.map (atN names)).Nodup := h.strict.imp fun {a b} hab (e : a = b) => by subst e; exact List.lt_irrefl a hab
    exact hp.names.nodup_iff.1 this
  have hb : objB names L = true := objB_iff.2 ⟨hL, hnd, fun s hs => by
    obtain ⟨i, hi, rfl⟩ := List.mem_map.1 (hp.names.mem_iff.2 hs)
    exact h.vl i hi⟩
  refine ⟨hb, ?_⟩
  rw [objV, if_pos hb, hp.pairs hL h.strict, List.zip_map']
theorem Sel.wrong {names : List (List UInt8)} {L : List (List Nd)} {b : Nat} (hb : b < names.length) (hv : vld (atN names b) = false) : objB names L = false := by
  cases h : objB names L
  · rfl
  · have := (objB_iff.1 h).2.2 (atN names b) (by rw [atN, List.getD_eq_getElem?_getD, List.getElem?_eq_getElem hb]; exact List.getElem_mem hb)
    rw [this] at hv; cases hv
theorem Sel.twice {names : List (List UInt8)} {L : List (List Nd)} {a b : Nat} (ha : a < names.length) (hb : b < names.length) (hne : a ≠ b) (he : atN names a = atN names b) : objB names L = false := by
  cases h : objB names L
  · rfl
  · have hn := (objB_iff.1 h).2.1
    have e1 : atN names a = names[a] := by rw [atN, List.getD_eq_getElem?_getD, List.getElem?_eq_getElem ha]; rfl
    have e2 : atN names b = names[b] := by rw [atN, List.getD_eq_getElem?_getD, List.getElem?_eq_getElem hb]; rfl
    rw [e1, e2] at he
    rcases Nat.lt_or_gt_of_ne hne with hlt | hlt
    · exact absurd he (List.pairwise_iff_getElem.1 hn a b ha hb hlt)
    · exact absurd he.symm (List.pairwise_iff_getElem.1 hn b a hb ha hlt)
theorem Sel.next {names : List (List UInt8)} {p : List Nat} {b : Nat} (h : Sel names p) (hb : Least names p names.length b) (hv : vld (atN names b) = true) (hne : ∀ q a, p = q ++ [a] → atN names a ≠ atN names b) : Sel names (p ++ [b]) := by
  obtain ⟨hb1, hb2, hb3⟩ := hb
  have hlast : ∀ i ∈ p, atN names i < atN names b := by
    rcases List.eq_nil_or_concat p with hp | ⟨q, a, hp⟩
    · subst hp; intro i hi; cases hi
    · rw [List.concat_eq_append] at hp
      have ha : atN names a < atN names b := lt_of_ne (h.low a (by rw [hp]; simp) b hb1 hb2) (hne q a hp)
      intro i hi
      rw [hp] at hi
      rcases List.mem_append.1 hi with hi | hi
      · have hs := h.strict
        rw [hp, List.map_append, List.pairwise_append] at hs
        exact List.lt_trans (hs.2.2 (atN names i) (List.mem_map_of_mem hi) (atN names a) (by simp)) ha
      · simp at hi; subst hi; exact ha
  refine ⟨?_, ?_, ?_, ?_, ?_⟩
  · rw [List.nodup_append]
    exact ⟨h.nodup, by simp, fun x hx y hy => by simp at hy; subst hy; exact fun e => hb2 (e ▸ hx)⟩
  · intro i hi
    rcases List.mem_append.1 hi with hi | hi
    · exact h.lt i hi
    · simp at hi; subst hi; exact hb1
  · rw [List.map_append, List.pairwise_append]
    refine ⟨h.strict, by simp, fun x hx y hy => ?_⟩
    obtain ⟨i, hi, rfl⟩ := List.mem_map.1 hx
    simp at hy; subst hy
    exact hlast i hi
  · intro i hi
    rcases List.mem_append.1 hi with hi | hi
    · exact h.vl i hi
    · simp at hi; subst hi; exact hv
  · intro i hi j hj hjp
    have hjp' : j ∉ p := fun hh => hjp (by simp [hh])
    rcases List.mem_append.1 hi with hi | hi
    · exact h.low i hi j hj hjp'
    · simp at hi; subst hi; exact hb3 j hj hjp'
end Go.Proofs.YtafbojiojeemoaaGreatDoor

/-
  What the document's own answer Object is.
-/
namespace Go.Proofs.YtafbojiojeemoaaGreatDoor
open Go.RowKit Np Rw Vp

def boc (b : Bool) : List Value := [.bool b]
theorem boc_len (b : Bool) : (boc b).length = 1 := rfl
theorem bool_info : (Tryz.prog.info? 4).map (fun i => (i.zero, i.size, i.bytes)) = some (some (.bool false), 1, 1) := by kernel_rfl
theorem make_bools (n : Nat) (hn : n ≤ 1000000) (w : World) : (Instr.makeSlice 71 (.int .i64 (n : Int)) (.int .i64 (n : Int))).run Tryz.prog w = .ok (.slice (some ⟨w.heap.size, 0, none⟩) n n) (w.alloc (.cells (madeCells #[.bool false] n) 4)) := by
  obtain ⟨i, hi, hz0, hz1, hz2⟩ := info_parts bool_info
  have := run_make (P := Tryz.prog) w 71 4 i _ Tryz.underlying71 hi hz0 .i64 .i64 n n (by omega) (by omega) (by rw [hz2]; omega) (by omega)
  rw [hz1, Int.toNat_natCast, Nat.mul_one] at this
  exact this
/-- Which places have been chosen. -/
def marks (n : Nat) (p : List Nat) : List Bool := (List.range n).map fun i => decide (i ∈ p)
theorem marks_len (n : Nat) (p : List Nat) : (marks n p).length = n := by simp [marks]
theorem marks_nil (n : Nat) : marks n [] = List.replicate n false := by apply List.ext_getElem <;> simp [marks]
theorem marks_at {n k : Nat} (p : List Nat) (h : k < n) : (marks n p)[k]? = some (decide (k ∈ p)) := by simp [marks, h]
theorem marks_set (n b : Nat) (p : List Nat) : (marks n p).set b true = marks n (p ++ [b]) := by
  apply List.ext_getElem
  · simp [marks]
  · intro i h1 h2
    simp only [marks, List.getElem_set, List.getElem_map, List.getElem_range, List.mem_append, List.mem_singleton]
    by_cases e : b = i
    · subst e; simp
    · rw [if_neg e]
      rw [decide_eq_decide]
      exact ⟨fun h => .inl h, fun h => h.elim id (fun h => absurd h.symm e)⟩

set_option maxRecDepth 100000 in
set_option maxHeartbeats 8000000 in
theorem refObject_any (v u : Value) (names : List (List UInt8)) (L : List (List Nd)) (w : World) (hv : Sts w v names) (hu : Vls w u L) (hn : names.length ≤ 1000) (hb2 : (L.map List.length).sum ≤ 131072) (hsh : ∀ s ∈ names, s.length ≤ maxLen) (hne : ∀ l ∈ L, l ≠ []) :
    Calls Tryz.prog 18 #[v, u] w (GivesO w names L) := by
  have HSH := Lib.hid hsh
  have HNE := Lib.hid hne
  have HB2 := Lib.hid hb2
  clear hsh hne hb2
  obtain ⟨zs, hels, hrow⟩ := vls_els hu
  obtain ⟨A, c, rfl, hc, hcm, -, H⟩ := hv
  obtain ⟨A2, c2, rfl, hc2, hcm2, -, H2⟩ := hrow
  have hzl := hels.1
  by_cases hl : names.length = L.length
  · have HE := Lib.hid hels
    rw [hzl, ← hl] at H2 hc2 ⊢
    have HH := Lib.hid H
    have HH2 := Lib.hid H2
    have HL := Lib.hid hl
    have HZL := Lib.hid hzl
    clear hu hels H H2 hl hzl
    have hmk := fun (W : World) => make_bools names.length (by omega) W
    generalize hnn : names.length = n at *
    have HN := Lib.hid hnn; clear hnn
    have HMK := Lib.hid hmk; clear hmk
    go_enter Tryz.func18, Tryz.ntmps18
    have hmk := HMK.out ((w.alloc (.cells #[] 9)).alloc (.cells #[] 24))
    simp only [World.size_alloc] at hmk
    have HS0 : Hid (Own stc 1 9 w.heap.size ((w.alloc (.cells #[] 9)).alloc (.cells #[] 24)) (.slice (some ⟨w.heap.size, 0, none⟩) 0 0) []) := Lib.hid ((Own.lit (base := w.heap.size) (E := 9) stc_len w #[] [] (Nat.le_refl _) (by simp) rfl).alloc _)
    have HZ0 : Hid (Own slc 1 24 w.heap.size ((w.alloc (.cells #[] 9)).alloc (.cells #[] 24)) (.slice (some ⟨w.heap.size + 1, 0, none⟩) 0 0) []) := Lib.hid (by
      have := Own.lit (base := w.heap.size) (E := 24) slc_len (w.alloc (.cells #[] 9)) #[] [] (by simp) (by simp) rfl
      simpa using this)
    have HM0 : Hid (Own boc 1 4 w.heap.size (((w.alloc (.cells #[] 9)).alloc (.cells #[] 24)).alloc (.cells (madeCells #[.bool false] n) 4)) (.slice (some ⟨w.heap.size + 1 + 1, 0, none⟩) n n) (marks n [])) := Lib.hid (by
      rw [marks_nil]
      have := Own.made1 (E := 4) (base := w.heap.size) boc_len ((w.alloc (.cells #[] 9)).alloc (.cells #[] 24)) false (.bool false) rfl n (by unfold maxLen; omega) (by simp; omega)
      simpa using this)
    go_wp2_with fail
    generalize madeCells #[Value.bool false] n = cs at HM0 ⊢
    go_loopw [6, 7] (fun sv zv wr => ∃ (p : List Nat), Sel names p ∧ (∃ As cs, sv = .slice As p.length cs) ∧ Own stc 1 9 w.heap.size wr sv (p.map (atN names)) ∧ Own slc 1 24 w.heap.size wr zv (p.map fun j => zs.getD j (none, 0, 0)) ∧ Own boc 1 4 w.heap.size wr (.slice (some ⟨w.heap.size + 1 + 1, 0, none⟩) n n) (marks n p) ∧ Below w.heap.size w wr) (fun sv _ _ => n - lenOf sv)
    case atStart => exact ⟨[], Sel.nil _, ⟨_, _, rfl⟩, HS0.out.alloc _, HZ0.out.alloc _, HM0.out, (((Below.refl _ _).alloc (Nat.le_refl _) _).alloc (by simp) _).alloc (by simp; omega) _⟩
    case round =>
      obtain ⟨p, hsel, ⟨As, cs', rfl⟩, hs, hz, hm, hb⟩ := hrel
      have HSEL := Lib.hid hsel
      have HS := Lib.hid hs
      have HZ := Lib.hid hz
      have HM := Lib.hid hm
      have HB := Lib.hid hb
      have hpl : p.length ≤ n := by have := hsel.len; rwa [HN.out] at this
      clear hsel hs hz hm hb
      by_cases hlt : p.length < n
      · obtain ⟨wo, rfl⟩ : ∃ wo : World, wo = wr := ⟨_, rfl⟩
        obtain ⟨g, o, rfl, hg, hx⟩ := HH.out (by omega)
        have HX := Lib.hid hx
        clear hx
        go_wp2_with fail
        go_loopw [9, 10] (fun bv iv wr => ∃ k : Nat, k ≤ n ∧ iv = .int .i64 k ∧ (∃ q, wr = wo.drewN q) ∧ ((bv = .int .i64 (-1) ∧ ∀ j, j < k → j ∈ p) ∨ ∃ b : Nat, bv = .int .i64 b ∧ Least names p k b)) (fun _ iv _ => n - (intOf iv).toNat)
        case atStart => exact ⟨0, Nat.zero_le _, rfl, ⟨0, rfl⟩, .inl ⟨rfl, fun j h => absurd h (by omega)⟩⟩
        case round =>
          obtain ⟨k, hk, rfl, hq, hbest⟩ := hrel
          have HQ := Lib.hid hq
          clear hq
          by_cases hkn : k < n
          · have hkx : names[k]? = some (atN names k) := by rw [atN, List.getD_eq_getElem?_getD, List.getElem?_eq_getElem (by rw [HN.out]; exact hkn)]; rfl
            have m0 : wr.cell? ⟨w.heap.size + 1 + 1, k, none⟩ = some (.bool (decide (k ∈ p))) := by
              have hm' : Own boc 1 4 w.heap.size wo (.slice (some ⟨w.heap.size + 1 + 1, 0, none⟩) (marks n p).length n) (marks n p) := by rw [marks_len]; exact HM.out
              have := cell_quiet (Own.cell boc_len (j := 0) hm' (marks_at p hkn) rfl) HQ.out
              simpa using this
            have n0 : wr.cell? ⟨g, o + k, none⟩ = some (.string ⟨(atN names k).toArray⟩) := cell_quiet ((HB.out.cell (p := ⟨g, o + k, none⟩) hg).trans (HX.out k _ hkx).st) HQ.out
            have hkI : (k : Int) < n := by omega
            clear hkx
            generalize hans : atN names k = nk at n0
            have HNK := Lib.hid hans
            clear hans
            rcases hbest with ⟨rfl, hall⟩ | ⟨b, rfl, hle⟩
            · have HALLP := Lib.hid hall
              clear hall
              by_cases hkp : k ∈ p
              · rw [decide_eq_true hkp] at m0
                have HKP := Lib.hid hkp
                clear hkp
                go_wp2_with fail
                go_quiet (fail)
                go_wp2_with fail
                go_roundw
                case rel => exact ⟨k + 1, by omega, by go_num, quiet_more HQ.out _, .inl ⟨rfl, fun j hj => if e : j = k then e ▸ HKP.out else HALLP.out j (by omega)⟩⟩
                case measure => simp [intOf]; omega
              · rw [decide_eq_false hkp] at m0
                have HKP := Lib.hid hkp
                clear hkp
                go_wp2_with fail
                go_quiet (fail)
                go_wp2_with fail
                go_roundw
                case rel => exact ⟨k + 1, by omega, by go_num, quiet_more HQ.out _, .inr ⟨k, rfl, Least.first HALLP.out HKP.out⟩⟩
                case measure => simp [intOf]; omega
            · have HLE := Lib.hid hle
              have hbk : b < k := hle.1
              clear hle
              have hb0 : decide ((b : Int) < 0) = false := by simp
              by_cases hkp : k ∈ p
              · rw [decide_eq_true hkp] at m0
                have HKP := Lib.hid hkp
                clear hkp
                go_wp2_with fail
                go_quiet (fail)
                go_wp2_with fail
                go_roundw
                case rel => exact ⟨k + 1, by omega, by go_num, quiet_more HQ.out _, .inr ⟨b, rfl, HLE.out.keep (.inl HKP.out)⟩⟩
                case measure => simp [intOf]; omega
              · rw [decide_eq_false hkp] at m0
                have HKP := Lib.hid hkp
                clear hkp
                have hbx : names[b]? = some (atN names b) := by rw [atN, List.getD_eq_getElem?_getD, List.getElem?_eq_getElem (by rw [HN.out]; omega)]; rfl
                have n1 : wr.cell? ⟨g, o + b, none⟩ = some (.string ⟨(atN names b).toArray⟩) := cell_quiet ((HB.out.cell (p := ⟨g, o + b, none⟩) hg).trans (HX.out b _ hbx).st) HQ.out
                have hbI : (b : Int) < n := by omega
                have hbn : b < n := by omega
                clear hbx
                generalize hanb : atN names b = nb at n1
                have HNB := Lib.hid hanb
                clear hanb
                by_cases hlx : nk < nb
                · have hbl : Op.bytesLess nk nb = true := by rw [bytesLess_eq]; simp [hlx]
                  have HLX := Lib.hid hlx
                  clear hlx
                  go_wp2_with fail
                  go_quiet (fail)
                  go_wp2_with fail
                  go_roundw
                  case rel => exact ⟨k + 1, by omega, by go_num, quiet_more HQ.out _, .inr ⟨k, rfl, HLE.out.less HKP.out (by rw [HNK.out, HNB.out]; exact HLX.out)⟩⟩
                  case measure => simp [intOf]; omega
                · have hbl : Op.bytesLess nk nb = false := by rw [bytesLess_eq]; simp [hlx]
                  have HLX := Lib.hid hlx
                  clear hlx
                  go_wp2_with fail
                  go_quiet (fail)
                  go_wp2_with fail
                  go_roundw
                  case rel => exact ⟨k + 1, by omega, by go_num, quiet_more HQ.out _, .inr ⟨b, rfl, HLE.out.keep (.inr (by rw [HNK.out, HNB.out]; exact HLX.out))⟩⟩
                  case measure => simp [intOf]; omega
          · have hke : k = n := by omega
            subst hke
            rcases hbest with ⟨-, hall⟩ | ⟨b, rfl, hle⟩
            · exact absurd (fun j hj => hall j (by rw [← HN.out]; exact hj)) (HSEL.out.some (by rw [HN.out]; exact hlt))
            · obtain ⟨wi, rfl⟩ : ∃ wi : World, wi = wr := ⟨_, rfl⟩
              have HLE := Lib.hid hle
              have hbn : b < k := hle.1
              clear hle
              have hbI : (b : Int) < k := by omega
              have hbI0 : ¬ (b : Int) < 0 := by omega
              have hbx : names[b]? = some (atN names b) := by rw [atN, List.getD_eq_getElem?_getD, List.getElem?_eq_getElem (by rw [HN.out]; exact hbn)]; rfl
              have HSN : Hid ((ByteArray.mk (atN names b).toArray).size ≤ maxLen) := Lib.hid (HSH.out _ (List.mem_of_getElem? hbx))
              have HNW : Hid (w.cell? ⟨g, o + b, none⟩ = some (.string ⟨(atN names b).toArray⟩)) := Lib.hid (HX.out b _ hbx).st
              obtain ⟨g2, o2, rfl, hg2, hx2⟩ := HH2.out (by omega)
              obtain ⟨zb, hzb⟩ : ∃ a, zs[b]? = some a := ⟨_, List.getElem?_eq_getElem (by rw [HZL.out, ← HL.out]; exact hbn)⟩
              have HZW : Hid (w.cell? ⟨g2, o2 + b, none⟩ = some (.slice zb.1 zb.2.1 zb.2.2)) := Lib.hid (hx2 b zb hzb).one
              have HZB : Hid (zs.getD b (none, 0, 0) = zb) := Lib.hid (by rw [List.getD_eq_getElem?_getD, hzb]; rfl)
              have HBI : Hid (Below w.heap.size w wi) := Lib.hid (HB.out.trans ((below_quiet HQ.out).mono HB.out.size))
              have HSI := Lib.hid (HS.out.below (below_quiet HQ.out))
              have HZI := Lib.hid (HZ.out.below (below_quiet HQ.out))
              have HMI := Lib.hid (HM.out.below (below_quiet HQ.out))
              have n1 := (HBI.out.cell (p := ⟨g, o + b, none⟩) hg).trans HNW.out
              have HMI' : Hid (Own boc 1 4 w.heap.size wi (.slice (some ⟨w.heap.size + 1 + 1, 0, none⟩) (marks k p).length k) (marks k p)) := Lib.hid (by rw [marks_len]; exact HMI.out)
              have m1 : wi.cell? ⟨w.heap.size + 1 + 1, b, none⟩ = some (.bool (decide (b ∈ p))) := by
                have := Own.cell boc_len (j := 0) HMI'.out (marks_at p hbn) rfl
                simpa using this
              have f1 : wi.frozen? ⟨w.heap.size + 1 + 1, b, none⟩ = false := HMI'.out.free b
              have HALLW : Hid (∀ m W', (wi.drewN m).setCell ⟨w.heap.size + 1 + 1, b, none⟩ (.bool true) = W' → Own stc 1 9 w.heap.size W' (.slice As p.length cs') (p.map (atN names)) ∧ Own slc 1 24 w.heap.size W' u7 (p.map fun j => zs.getD j (none, 0, 0)) ∧ Own boc 1 4 w.heap.size W' (.slice (some ⟨w.heap.size + 1 + 1, 0, none⟩) k k) (marks k (p ++ [b])) ∧ Below w.heap.size w W') := Lib.hid (fun m W' hW' => by
                subst hW'
                have hgr : (wi.drewN m).grownBy ((wi.drewN m).setCell ⟨w.heap.size + 1 + 1, b, none⟩ (.bool true)) (Value.slice (some ⟨w.heap.size + 1 + 1, 0, none⟩) k k).ownBlock := grown_set (World.grownBy.refl _ _) (.inl rfl) _
                have hmm : Own boc 1 4 w.heap.size (wi.drewN m) (.slice (some ⟨w.heap.size + 1 + 1, 0, none⟩) k k) (marks k p) := HMI.out.drewN m
                refine ⟨Own.aside (HSI.out.drewN m) hmm (by decide) hgr, Own.aside (HZI.out.drewN m) hmm (by decide) hgr, ?_, (drewN_below HBI.out m).setCell (by show w.heap.size ≤ w.heap.size + 1 + 1; omega) _⟩
                have h := Own.put boc_len (j := 0) (y := true) (u := .bool true) (HMI'.out.drewN m) (marks_at p hbn) (by decide) rfl
                rw [marks_set, marks_len] at h
                simpa using h)
              have HTW : Hid (∀ a, a ∈ p → atN names a = atN names b → objB names L = false) := Lib.hid (fun a ha he => Sel.twice (HSEL.out.lt a ha) (by rw [HN.out]; exact hbn) (fun (e : a = b) => HLE.out.2.1 (by rw [← e]; exact ha)) he)
              have HWR : Hid (vld (atN names b) = false → objB names L = false) := Lib.hid (fun h => Sel.wrong (by rw [HN.out]; exact hbn) h)
              have HNX : Hid (vld (atN names b) = true → (∀ q a, p = q ++ [a] → atN names a ≠ atN names b) → Sel names (p ++ [b])) := Lib.hid (fun h1 h2 => HSEL.out.next (by rw [HN.out]; exact HLE.out) h1 h2)
              clear hbx hzb hx2
              generalize hans : atN names b = nb at n1 HSN HNW HTW HWR HNX
              have HNB := Lib.hid hans
              clear hans
              cases hvl : vld nb with
              | false =>
                have HC : Hid (∀ m, Calls Tryz.prog 38 #[.string ⟨nb.toArray⟩] (wi.drewN m) fun e w' => e = .returned (.bool false) ∧ w' = wi.drewN m) := Lib.hid fun m => (refUtf_any ⟨nb.toArray⟩ _ HSN.out).mono fun _ _ ⟨h1, h2⟩ => ⟨by rw [h1, ← hvl], h2.symm⟩
                have HBAD := Lib.hid (HWR.out hvl)
                clear hvl
                go_wp2_with fail
                go_quiet ((go_at_call 38; exact Calls.quiet_of_same (HC.out _)))
                go_wp2_with fail
                go_ret2
                exact GivesO.bad HBAD.out rfl (drewN_below HBI.out _)
              | true =>
                have HC : Hid (∀ m, Calls Tryz.prog 38 #[.string ⟨nb.toArray⟩] (wi.drewN m) fun e w' => e = .returned (.bool true) ∧ w' = wi.drewN m) := Lib.hid fun m => (refUtf_any ⟨nb.toArray⟩ _ HSN.out).mono fun _ _ ⟨h1, h2⟩ => ⟨by rw [h1, ← hvl], h2.symm⟩
                have HV := Lib.hid hvl
                clear hvl
                rcases List.eq_nil_or_concat p with hp | ⟨q, a, hp⟩
                · have HNEXT := Lib.hid (HNX.out HV.out (fun q a e => by rw [hp] at e; exact absurd e (by simp)))
                  have hp0 : p.length = 0 := by rw [hp]; rfl
                  have g0 : decide ((0 : Int) < p.length) = false := by simp; omega
                  have g1 : decide (0 < p.length) = false := by simp; omega
                  clear hp hp0
                  go_wp2_with fail
                  go_quiet ((go_at_call 38; exact Calls.quiet_of_same (HC.out _)))
                  go_upto_region 16 with fail
                  generalize hW : World.setCell (World.drewN wi _) _ _ = W3
                  obtain ⟨hs3, hz3, hm3, hb3⟩ := HALLW.out _ _ hW
                  have n3 := (hb3.cell (p := ⟨g, o + b, none⟩) hg).trans HNW.out
                  have HS3 := Lib.hid hs3
                  have HZ3 := Lib.hid hz3
                  have HM3 := Lib.hid hm3
                  have HB3 := Lib.hid hb3
                  clear hs3 hz3 hm3 hb3 hW m1 f1 n1
                  go_wp2_with (at_builtin; refine wpList_append_row (base := w.heap.size) elText rfl _ _ rfl rfl (HS3.out.alloc _) rfl (row_one stc_len W3 _ rfl 9 #[.string ⟨nb.toArray⟩] nb rfl) ?_ ?_ ?_ ?_)
                  · unfold maxLen; simp; omega
                  · simp; omega
                  · have := HB3.out.size; simp; omega
                  · intro A4 c4 w4 hown4 hg4 hwh
                    clear hwh
                    have HS4 : Hid (Own stc 1 9 w.heap.size w4 (.slice A4 (p.length + 1) c4) ((p ++ [b]).map (atN names))) := Lib.hid (by rw [List.map_append]; show Own _ _ _ _ _ _ (p.map (atN names) ++ [atN names b]); rw [HNB.out]; simpa using hown4)
                    have HZ4 := Lib.hid (Own.aside (HZ3.out.alloc _) (HS3.out.alloc _) (by decide) hg4)
                    have HM4 := Lib.hid (Own.aside (HM3.out.alloc _) (HS3.out.alloc _) (by decide) hg4)
                    have HB4 : Hid (Below w.heap.size w w4) := Lib.hid ((HB3.out.alloc HB3.out.size _).trans ((HS3.out.alloc _).kept hg4 (by have := HB3.out.size; simp; omega)))
                    clear hown4 hg4 n3
                    have z4 := (HB4.out.cell (p := ⟨g2, o2 + b, none⟩) hg2).trans HZW.out
                    try simp only [List.length_map]
                    go_wp2_with (at_builtin; refine wpList_append_row (base := w.heap.size) elVal rfl _ _ rfl rfl (HZ4.out.alloc _) rfl (row_one slc_len w4 _ rfl 24 #[.slice zb.1 zb.2.1 zb.2.2] zb rfl) ?_ ?_ ?_ ?_)
                    · unfold maxLen; simp; omega
                    · simp; omega
                    · have := HB4.out.size; simp; omega
                    · intro A5 c5 w5 hown5 hg5 hwh
                      clear hwh
                      have HZ5 : Hid (Own slc 1 24 w.heap.size w5 (.slice A5 (p.length + 1) c5) ((p ++ [b]).map fun j => zs.getD j (none, 0, 0))) := Lib.hid (by rw [List.map_append]; show Own _ _ _ _ _ _ ((p.map fun j => zs.getD j (none, 0, 0)) ++ [zs.getD b (none, 0, 0)]); rw [HZB.out]; simpa using hown5)
                      have HS5 := Lib.hid (Own.aside (HS4.out.alloc _) (HZ4.out.alloc _) (by decide) hg5)
                      have HM5 := Lib.hid (Own.aside (HM4.out.alloc _) (HZ4.out.alloc _) (by decide) hg5)
                      have HB5 : Hid (Below w.heap.size w w5) := Lib.hid ((HB4.out.alloc HB4.out.size _).trans ((HZ4.out.alloc _).kept hg5 (by have := HB4.out.size; simp; omega)))
                      clear hown5 hg5 z4
                      try simp only [List.length_map]
                      go_wp2_with fail
                      go_roundw
                      case rel => exact ⟨p ++ [b], HNEXT.out, ⟨A4, c4, by simp⟩, HS5.out, HZ5.out, HM5.out, HB5.out⟩
                      case measure => simp [lenOf]; omega
                · rw [List.concat_eq_append] at hp
                  have hpq : p.length = q.length + 1 := by rw [hp]; simp
                  have hin : a ∈ p := by rw [hp]; simp
                  obtain ⟨gs, cap, hform, -, -⟩ := HSI.out.opened (by rw [List.length_map]; omega)
                  injection hform with e1 e2 e3
                  clear e2
                  subst e1
                  subst e3
                  have s1 : wi.cell? ⟨gs, q.length, none⟩ = some (.string ⟨(atN names a).toArray⟩) := by
                    have h' : Own stc 1 9 w.heap.size wi (.slice (some ⟨gs, 0, none⟩) (p.map (atN names)).length cs') (p.map (atN names)) := by rw [List.length_map]; exact HSI.out
                    have := Own.cell stc_len (k := q.length) (x := atN names a) (j := 0) h' (by rw [hp]; simp) rfl
                    simpa using this
                  have g0 : decide ((0 : Int) < p.length) = true := by simp; omega
                  have g1 : decide (0 < p.length) = true := by simp; omega
                  have hw1 : IntKind.i64.wrap ((p.length : Int) - 1) = (q.length : Int) := (IntWalk.i64_in _ (by omega)).trans (by omega)
                  have hqi : (q.length : Int) < p.length := by omega
                  have hqn : q.length < p.length := by omega
                  have HPQ := Lib.hid hp
                  clear hp hpq
                  generalize hans : atN names a = na at s1
                  have HNA := Lib.hid hans
                  clear hans
                  have HIN := Lib.hid hin
                  clear hin
                  generalize q.length = ql at *
                  by_cases he : na = nb
                  · have HBAD := Lib.hid (HTW.out a HIN.out (HNA.out.trans he))
                    subst he
                    go_wp2_with fail
                    go_quiet ((go_at_call 38; exact Calls.quiet_of_same (HC.out _)))
                    go_wp2_with fail
                    go_ret2
                    exact GivesO.bad HBAD.out rfl (drewN_below HBI.out _)
                  · have hne : (na == nb) = false := by simp [he]
                    have HNEXT := Lib.hid (HNX.out HV.out (fun q' a' e => by
                      have e2 := HPQ.out.symm.trans e
                      have e3 := (List.append_inj' e2 rfl).2
                      injection e3 with e4 _
                      rw [← e4, HNA.out]; exact he))
                    clear he
                    go_wp2_with fail
                    go_quiet ((go_at_call 38; exact Calls.quiet_of_same (HC.out _)))
                    go_upto_region 16 with fail
                    generalize hW : World.setCell (World.drewN wi _) _ _ = W3
                    obtain ⟨hs3, hz3, hm3, hb3⟩ := HALLW.out _ _ hW
                    have n3 := (hb3.cell (p := ⟨g, o + b, none⟩) hg).trans HNW.out
                    have HS3 := Lib.hid hs3
                    have HZ3 := Lib.hid hz3
                    have HM3 := Lib.hid hm3
                    have HB3 := Lib.hid hb3
                    clear hs3 hz3 hm3 hb3 hW m1 f1 n1
                    go_wp2_with (at_builtin; refine wpList_append_row (base := w.heap.size) elText rfl _ _ rfl rfl (HS3.out.alloc _) rfl (row_one stc_len W3 _ rfl 9 #[.string ⟨nb.toArray⟩] nb rfl) ?_ ?_ ?_ ?_)
                    · unfold maxLen; simp; omega
                    · simp; omega
                    · have := HB3.out.size; simp; omega
                    · intro A4 c4 w4 hown4 hg4 hwh
                      clear hwh
                      have HS4 : Hid (Own stc 1 9 w.heap.size w4 (.slice A4 (p.length + 1) c4) ((p ++ [b]).map (atN names))) := Lib.hid (by rw [List.map_append]; show Own _ _ _ _ _ _ (p.map (atN names) ++ [atN names b]); rw [HNB.out]; simpa using hown4)
                      have HZ4 := Lib.hid (Own.aside (HZ3.out.alloc _) (HS3.out.alloc _) (by decide) hg4)
                      have HM4 := Lib.hid (Own.aside (HM3.out.alloc _) (HS3.out.alloc _) (by decide) hg4)
                      have HB4 : Hid (Below w.heap.size w w4) := Lib.hid ((HB3.out.alloc HB3.out.size _).trans ((HS3.out.alloc _).kept hg4 (by have := HB3.out.size; simp; omega)))
                      clear hown4 hg4 n3
                      have z4 := (HB4.out.cell (p := ⟨g2, o2 + b, none⟩) hg2).trans HZW.out
                      try simp only [List.length_map]
                      go_wp2_with (at_builtin; refine wpList_append_row (base := w.heap.size) elVal rfl _ _ rfl rfl (HZ4.out.alloc _) rfl (row_one slc_len w4 _ rfl 24 #[.slice zb.1 zb.2.1 zb.2.2] zb rfl) ?_ ?_ ?_ ?_)
                      · unfold maxLen; simp; omega
                      · simp; omega
                      · have := HB4.out.size; simp; omega
                      · intro A5 c5 w5 hown5 hg5 hwh
                        clear hwh
                        have HZ5 : Hid (Own slc 1 24 w.heap.size w5 (.slice A5 (p.length + 1) c5) ((p ++ [b]).map fun j => zs.getD j (none, 0, 0))) := Lib.hid (by rw [List.map_append]; show Own _ _ _ _ _ _ ((p.map fun j => zs.getD j (none, 0, 0)) ++ [zs.getD b (none, 0, 0)]); rw [HZB.out]; simpa using hown5)
                        have HS5 := Lib.hid (Own.aside (HS4.out.alloc _) (HZ4.out.alloc _) (by decide) hg5)
                        have HM5 := Lib.hid (Own.aside (HM4.out.alloc _) (HZ4.out.alloc _) (by decide) hg5)
                        have HB5 : Hid (Below w.heap.size w w5) := Lib.hid ((HB4.out.alloc HB4.out.size _).trans ((HZ4.out.alloc _).kept hg5 (by have := HB4.out.size; simp; omega)))
                        clear hown5 hg5 z4
                        try simp only [List.length_map]
                        go_wp2_with fail
                        go_roundw
                        case rel => exact ⟨p ++ [b], HNEXT.out, ⟨A4, c4, by simp⟩, HS5.out, HZ5.out, HM5.out, HB5.out⟩
                        case measure => simp [lenOf]; omega
      · have hpe : p.length = n := by omega
        obtain ⟨wo, rfl⟩ : ∃ wo : World, wo = wr := ⟨_, rfl⟩
        have HD := Lib.hid (HSEL.out.done (L := L) (by rw [HN.out]; exact hpe) (by rw [HN.out]; exact HL.out))
        have hpl2 := HSEL.out.places (by rw [HN.out]; exact hpe)
        have hnl : names.length = L.length := by rw [HN.out]; exact HL.out
        have HS1 : Hid (Sts wo (.slice As p.length cs') (p.map (atN names))) := Lib.hid (HS.out.row stc_len)
        have HZ1 := Lib.hid (HZ.out.row slc_len)
        have HV1 : Hid (Vls wo u7 (p.map (atL L))) := Lib.hid (Els.vls ⟨by simp, fun k z l hz hl => by
          rw [List.getElem?_map] at hz hl
          cases hi : p[k]? with
          | none => rw [hi] at hz; cases hz
          | some i =>
            rw [hi] at hz hl
            injection hz with hz
            injection hl with hl
            have hin := HSEL.out.lt i (List.mem_of_getElem? hi)
            have hx := HE.out.2 i z l (by rw [← hz]; show zs[i]? = some (zs.getD i (none, 0, 0)); rw [List.getD_eq_getElem?_getD, List.getElem?_eq_getElem (by rw [HE.out.1, ← hnl]; exact hin)]; rfl) (by rw [← hl]; show L[i]? = some (L.getD i []); rw [List.getD_eq_getElem?_getD, List.getElem?_eq_getElem (by rw [← hnl]; exact hin)]; rfl)
            exact hx.below HB.out⟩ HZ1.out)
        have hq1 : (p.map (atN names)).length = (p.map (atL L)).length := by simp
        have hq2 : (p.map (atL L)).length ≤ 65536 := by rw [List.length_map]; omega
        have hq3 : ((p.map (atL L)).map List.length).sum ≤ 131072 := by
          rw [List.map_map]
          have := hpl2.sum (L := L) hnl
          have h2 := HB2.out
          exact Nat.le_trans (Nat.le_of_eq this) h2
        have hq4 : ∀ l ∈ p.map (atL L), l ≠ [] := fun l hl => by
          obtain ⟨i, hi, rfl⟩ := List.mem_map.1 hl
          have hin := HSEL.out.lt i hi
          refine HNE.out _ ?_
          rw [atL, List.getD_eq_getElem?_getD, List.getElem?_eq_getElem (by rw [← hnl]; exact hin)]
          exact List.getElem_mem _
        have HQ := Lib.hid (refNamed_any _ _ _ _ _ HS1.out HV1.out hq1 hq2 hq3 hq4)
        have HLN : Hid ((p.map (atL L)).length = L.length) := Lib.hid (by rw [List.length_map, hpe]; exact HL.out)
        clear hq1 hq2 hq3 hq4 hpl2 hnl hpe hpl
        go_wp2_with (go_at_call 39; refine HQ.out.mono ?_; rintro e w2 ⟨v2, rfl, ho2, hB2⟩)
        have HO2 := Lib.hid ho2
        have HB2' := Lib.hid hB2
        clear ho2 hB2
        go_ret2
        refine ⟨_, by rw [objE, HD.out.1]; rfl, ?_, HB.out.trans (HB2'.out.mono HB.out.size)⟩
        rw [HD.out.2, ← HLN.out]
        exact HO2.out.mono HB.out.size
  · have hne : ((names.length : Int) != zs.length) = true := by simp; omega
    have HO : Hid (objB names L = false) := Lib.hid (by simp [objB, hl])
    clear hl hzl H H2 hu hels
    generalize names.length = n at *
    generalize zs.length = m at *
    go_enter Tryz.func18, Tryz.ntmps18
    go_wp2_with fail
    go_ret2
    exact GivesO.bad HO.out rfl (Below.refl _ _)
end Go.Proofs.YtafbojiojeemoaaGreatDoor

/-
  What val.Names answers.
-/
namespace Go.Proofs.YtafbojiojeemoaaGreatDoor
open Go.RowKit Go.Shelf Np Rw Vp
attribute [local go_sem] Oper.semAt_some

/-- Between two rounds of Names. -/
def NI {L : List Nd} (w : World) (pre : List (Pt L)) (W : World) : Prop :=
  (∃ v, Boxed W w.heap.size 40 v ∧ Own stc 1 9 w.heap.size W v (pre.map fun x => x.1.2.nd.name)) ∧ Below w.heap.size w W
theorem NI.own {L : List Nd} (w : World) (B : Nat) (hB : w.heap.size ≤ B) : OwnFrom B (NI (L := L) w) := by
  intro s W W' row hs hg hr
  obtain ⟨⟨v, h1, h2⟩, h4⟩ := hs
  have hr' : ∀ r, row = some r → ∃ o : Obj, W.heap[r]? = some o ∧ o.isCells = false := fun r e => (hr r e).2
  exact ⟨⟨v, boxed_turned h1 hg hr', h2.turned hg hr'⟩, ownFrom_below (β := Unit) (Nat.le_refl _) hB () W W' row h4 hg hr⟩
theorem NI.step {L : List Nd} {w W W3 : World} {pre : List (Pt L)} {x : Pt L} {v0 : Value} {v3 : Value} (hb0 : Boxed W w.heap.size 40 v0) (hown : Own stc 1 9 w.heap.size W v0 (pre.map fun x => x.1.2.nd.name))
    (hB : Below w.heap.size w W) (h3 : Own stc 1 9 w.heap.size W3 v3 ((pre.map fun x => x.1.2.nd.name) ++ [x.1.2.nd.name])) (hg : (W.drew.alloc (.cells #[.string ⟨x.1.2.nd.name.toArray⟩] 9)).grownBy W3 v0.ownBlock) :
    Boxed W3 w.heap.size 40 v0 ∧ KeepsOthers W (W3.setCell ⟨w.heap.size, 0, none⟩ v3) ∧ Below w.heap.size W (W3.setCell ⟨w.heap.size, 0, none⟩ v3) ∧ NI w (pre ++ [x]) (W3.setCell ⟨w.heap.size, 0, none⟩ v3) := by
  have hbx := hb0.lt
  have hBs := hB.size
  have h2 : Below W.heap.size W (W.drew.alloc (.cells #[.string ⟨x.1.2.nd.name.toArray⟩] 9)) := ((Below.refl _ W).drew).alloc (Nat.le_refl _) _
  have hz2 := h2.size
  have hb2 : Boxed (W.drew.alloc (.cells #[.string ⟨x.1.2.nd.name.toArray⟩] 9)) w.heap.size 40 v0 := (h2.block _ hbx).trans hb0
  have ho2 : Own stc 1 9 w.heap.size (W.drew.alloc (.cells #[.string ⟨x.1.2.nd.name.toArray⟩] 9)) v0 (pre.map fun x => x.1.2.nd.name) := hown.below h2
  have hne : some w.heap.size ≠ v0.ownBlock := hb2.not_row (by decide) ho2
  have hb3 : Boxed W3 w.heap.size 40 v0 := hb2.kept hg hne
  have hne3 : v3.ownBlock ≠ some w.heap.size := fun e => (hb3.not_row (by decide) h3) e.symm
  have hlow : Below w.heap.size W W3 := (h2.mono hBs).trans (ho2.kept hg (by omega))
  have hset := hlow.setCell (p := ⟨w.heap.size, 0, none⟩) (Nat.le_refl _) v3
  refine ⟨hb3, ?_, hset, ⟨v3, hb3.set v3, ?_⟩, hB.trans hset⟩
  · refine ((keeps_below h2).trans (KeepsOthers.of_grownBy hg (fun j o e ho => ?_))).trans (KeepsOthers.setCell _ _ _)
    obtain ⟨g, cap, cur, hv, _, hh, _⟩ := (ho2.2).resolve_left (fun h => by rw [h.1] at e; cases e)
    rw [hv] at e
    cases e
    rw [hh] at ho
    cases ho
    rfl
  · rw [List.map_append, List.map_singleton]
    exact ownsRow_setCell_other h3 hne3 v3

end Go.Proofs.YtafbojiojeemoaaGreatDoor

/-
  Contracts of library functions, at this translation.
-/
namespace Go.Proofs
open Go.Shelf
def Tryz.growN_ren : Go.Shelf.Ren := ⟨fun | 4 => 113 | n => n, fun | 22 => 24 | 25 => 35 | 3 => 3 | 4 => 4 | 9 => 9 | 20 => 20 | 0 => 0 | n => n, fun | n => n⟩
theorem Tryz.growN : Go.Proofs.Lays8.n4 Tryz.prog Tryz.growN_ren := {
  mixed := by kernel_rfl
  f4 := ⟨Tryz.f113.name, by decide, Tryz.func113.trans (congrArg some (by kernel_rfl))⟩
  t0 := Tryz.underlying0
  a0 := Tryz.isAgg0
  z0 := Tryz.sizeOf0
  v0 := Tryz.zeroValue0
  t3 := Tryz.underlying3
  a3 := Tryz.isAgg3
  z3 := Tryz.sizeOf3
  v3 := Tryz.zeroValue3
  t4 := Tryz.underlying4
  a4 := Tryz.isAgg4
  z4 := Tryz.sizeOf4
  v4 := Tryz.zeroValue4
  t9 := Tryz.underlying9
  a9 := Tryz.isAgg9
  z9 := Tryz.sizeOf9
  v9 := Tryz.zeroValue9
  t20 := Tryz.underlying20
  a20 := Tryz.isAgg20
  z20 := Tryz.sizeOf20
  v20 := Tryz.zeroValue20
  t22 := Tryz.underlying24
  a22 := Tryz.isAgg24
  z22 := Tryz.sizeOf24
  v22 := Tryz.zeroValue24 }
end Go.Proofs

/-
  What the library's Grow (of nothing) and Concat answer for rows of nodes.
-/
namespace Go.Proofs.YtafbojiojeemoaaGreatDoor
open Go.RowKit Go.Shelf Np Rw Vp

theorem grow_any (n : Nat) (hn : n ≤ 400000) (w : World) : Calls Tryz.prog 113 #[.slice none 0 0, .int .i64 (n : Int)] w (OwnsN w []) := by
  rcases Nat.eq_zero_or_pos n with h0 | h0
  · subst h0
    have h := Any8.slices_Grow_room Tryz.growN none 0 0 0 w (by omega) (by omega) (by omega) (by omega)
    change Calls Tryz.prog 113 _ _ _ at h
    refine h.mono fun e w' ⟨h1, h2⟩ => ?_
    subst h1 h2
    exact ⟨_, rfl, Own.nil _, Below.refl _ _⟩
  · obtain ⟨i, hi, hz0, hz1, hz2⟩ := info_parts node_info
    have h := Any8.slices_Grow_grow Tryz.growN i _ hi hz0 (by rw [hz1]; decide) none 0 0 n [] w (by omega) (by omega) (by rw [hz2]; omega) (by omega) (by simp) (fun _ => rfl) (fun a ha => by cases ha)
    change Calls Tryz.prog 113 _ _ _ at h
    refine h.mono fun e w' ⟨h1, h2⟩ => ?_
    subst h1 h2
    have hge := grownCap_ge w (0 + n) 0 35
    refine ⟨_, rfl, ⟨by simp, .inr ⟨w.heap.size, grownCap w (0 + n) 0 35, _, rfl, Nat.le_refl _, heap_alloc_new w.drew _, Nat.zero_le _, grownCap_le_maxLen w _ _ _ (by unfold maxLen; omega), ?_, by simp⟩⟩, (Below.refl _ _).drew.alloc (by simp) _⟩
    simp only [Array.size_append, size_zeroCells]
    have hz6 : (Value.agg #[.int .i64 0, .int .i64 0, .string ⟨#[]⟩, .string ⟨#[]⟩, .bool false, .int .i64 0]).cells.size = 6 := rfl
    rw [hz6]
    change 0 + (0 + n - 0) * 6 + (grownCap w (0 + n) 0 35 - (0 + n)) * 6 = grownCap w (0 + n) 0 35 * 6
    omega

set_option maxRecDepth 100000 in
set_option maxHeartbeats 2000000 in
theorem concat_any (v : Value) (L : List (List Nd)) (w : World) (hv : Vls w v L) (hb1 : L.length ≤ 131072) (hb2 : (L.map List.length).sum ≤ 262144) :
    Calls Tryz.prog 80 #[v] w (OwnsN w L.flatten) := by
  obtain ⟨us, hul, hu, hur⟩ := hv
  obtain ⟨A, c, rfl, -, -, -, H⟩ := hu
  have HUL := Lib.hid hul
  have HU := Lib.hid hur
  have HH := Lib.hid H
  clear hur H
  rw [← hul] at hb1
  clear hul
  generalize hn : us.length = n at *
  have HN := Lib.hid hn; clear hn
  have HB2 := Lib.hid hb2
  clear hb2
  go_enter Tryz.func80, Tryz.ntmps80
  go_wp2
  go_loopw [3, 11] (fun nn i wr => ∃ k q : Nat, k ≤ n ∧ i = .int .i64 k ∧ nn = .int .i64 (q : Nat) ∧ q = ((L.take k).map List.length).sum ∧ q ≤ 262144 ∧ wr = w) (fun _ i _ => n - (intOf i).toNat)
  case atStart => exact ⟨0, 0, Nat.zero_le _, rfl, rfl, rfl, by omega, rfl⟩
  case round =>
    obtain ⟨k, q, hk, rfl, rfl, hq, hqb, rfl⟩ := hrel
    have HQ := Lib.hid hq
    clear hq
    by_cases hlt : k < n
    · obtain ⟨g, o, rfl, hg, hx⟩ := HH.out (by omega)
      obtain ⟨x, hxk⟩ : ∃ a, us[k]? = some a := ⟨_, List.getElem?_eq_getElem (by rw [HN.out]; exact hlt)⟩
      obtain ⟨a, ha⟩ : ∃ a, L[k]? = some a := ⟨_, List.getElem?_eq_getElem (by rw [← HUL.out]; exact hlt)⟩
      have a0 := (hx k x hxk).one
      have hra : Nds wr x a := HU.out k x a hxk ha
      have HQ2 : Hid (q + a.length = ((L.take (k + 1)).map List.length).sum) := Lib.hid (by rw [sum_take ha, HQ.out])
      have hqa : q + a.length ≤ 262144 := by have := sum_take_le L (k + 1); have := HB2.out; rw [HQ2.out]; omega
      clear ha hxk hx
      obtain ⟨B, c', rfl, -⟩ := hra
      go_wp2_with fail
      go_roundw
      case rel => exact ⟨k + 1, q + a.length, by omega, by go_num, by go_num, HQ2.out, by omega, by simp⟩
      case measure => simp [intOf]; omega
    · obtain ⟨wo, rfl⟩ : ∃ wo : World, wo = wr := ⟨_, rfl⟩
      go_wp2_with (go_at_call 113; refine (grow_any q (by omega) _).mono ?_; rintro e w1 ⟨v1, rfl, ho1, hB1⟩)
      have HO1 := Lib.hid ho1
      have HB1 := Lib.hid hB1
      clear ho1 hB1
      go_loopw [6, 27] (fun vv i wr => ∃ k : Nat, k ≤ n ∧ i = .int .i64 k ∧ OwnN wo.heap.size wr vv (L.take k).flatten ∧ Below wo.heap.size wo wr) (fun _ i _ => n - (intOf i).toNat)
      case atStart => exact ⟨0, Nat.zero_le _, rfl, HO1.out, HB1.out⟩
      case round =>
        obtain ⟨j, hj, rfl, hown, hbw⟩ := hrel
        have HO := Lib.hid hown
        have HBW := Lib.hid hbw
        by_cases hlt2 : j < n
        · obtain ⟨g, o, rfl, hg, hx⟩ := HH.out (by omega)
          obtain ⟨x, hxk⟩ : ∃ a, us[j]? = some a := ⟨_, List.getElem?_eq_getElem (by rw [HN.out]; exact hlt2)⟩
          obtain ⟨a, ha⟩ : ∃ a, L[j]? = some a := ⟨_, List.getElem?_eq_getElem (by rw [← HUL.out]; exact hlt2)⟩
          have a0 := (hbw.cell (p := ⟨g, o + j, none⟩) hg).trans (hx j x hxk).one
          have HRA : Hid (Nds wr x a) := Lib.hid ((HU.out j x a hxk ha).below hbw)
          have HS : Hid ((L.take (j + 1)).flatten = (L.take j).flatten ++ a) := Lib.hid (by rw [List.take_add_one, ha]; simp)
          have HLN : Hid ((L.take j).flatten.length + a.length ≤ 262144) := Lib.hid (by
            have h1 := sum_take ha
            have h2 := sum_take_le L (j + 1)
            have h3 := HB2.out
            rw [List.length_flatten]; omega)
          clear ha hxk hx hown hbw
          go_wp2_with (at_builtin; refine wpList_append_row (base := wo.heap.size) elNode rfl _ _ rfl rfl HO.out rfl HRA.out ?_ ?_ ?_ ?_)
          · have := HLN.out; unfold maxLen; omega
          · have := HLN.out; omega
          · exact HBW.out.size
          · intro A' c' w2 hown2 hg2 _
            have HO2 := Lib.hid hown2
            have HG2 := Lib.hid hg2
            clear hown2 hg2 a0
            generalize ((L.take j).flatten ++ a).length = q2 at HO2 ⊢
            go_wp2_with fail
            go_roundw
            case rel => exact ⟨j + 1, by omega, by go_num, by rw [HS.out]; exact HO2.out, HBW.out.trans (HO.out.kept HG2.out HBW.out.size)⟩
            case measure => simp [intOf]; omega
        · have HE : Hid (L.take j = L) := Lib.hid (List.take_of_length_le (by rw [← HUL.out]; omega))
          clear hown hbw
          go_wp2_with fail
          go_ret
          exact ⟨_, rfl, by have := HO.out; rwa [HE.out] at this, HBW.out⟩
end Go.Proofs.YtafbojiojeemoaaGreatDoor

/-
  The front and the rest of a row. Of no function.
-/
namespace Go.Proofs.YtafbojiojeemoaaGreatDoor
open Go.RowKit Np Rw Vp

theorem Row.front {α : Type} {enc : α → List Value} {sz g o c : Nat} {w : World} {l : List α} (h : Row enc sz w (.slice (some ⟨g, o, none⟩) l.length c) l) (k : Nat) (hk : k ≤ l.length) (hkc : k ≤ c) (hcm : c ≤ maxLen) :
    Row enc sz w (.slice (some ⟨g, o, none⟩) k c) (l.take k) := by
  have hl : (l.take k).length = k := by simp; omega
  refine ⟨_, c, by rw [hl], by rw [hl]; exact hkc, hcm, fun h => (by cases h), fun h0 => ?_⟩
  rw [hl] at h0
  obtain ⟨A, c', hv, hc, hm, -, H⟩ := h
  injection hv with e1 _ e3
  obtain ⟨g', o', hA, hg, hx⟩ := H (by omega)
  rw [hA] at e1
  injection e1 with e1
  injection e1 with e1 e2
  subst e1 e2
  refine ⟨g, o, rfl, hg, fun i y hi => hx i y ?_⟩
  rw [List.getElem?_take] at hi
  split at hi
  · exact hi
  · cases hi
/-- The rest of a row, wherever its slice is said to begin. -/
theorem Row.back {α : Type} {enc : α → List Value} {sz g o c : Nat} {w : World} {l : List α} (h : Row enc sz w (.slice (some ⟨g, o, none⟩) l.length c) l) (k : Nat) (hk : k ≤ l.length) (hc : l.length ≤ c) (_hcm : c ≤ maxLen) :
    Row enc sz w (.slice (some (if k = c then ⟨g, o, none⟩ else ⟨g, o + k * sz, none⟩)) (l.length - k) (c - k)) (l.drop k) := by
  split
  · rename_i e
    have e1 : l.length - k = 0 := by omega
    have e2 : l.drop k = [] := List.drop_of_length_le (by omega)
    rw [e1, e2]
    exact Row.empty _ _ _ (by omega)
  · exact h.rest k hk
end Go.Proofs.YtafbojiojeemoaaGreatDoor

/-
  What val's With and Without answer, of an object.
-/
namespace Go.Proofs.YtafbojiojeemoaaGreatDoor
open Go.RowKit Np Rw Vp

/-- A row of the call's own that begins with an object's node: how many parts it has can be written. -/
theorem head_end {gs : Nat} {w : World} {A : Option Addr} {N c K : Nat} {rest : List Nd} (h : OwnN gs w (.slice A N c) (hdN 6 K :: rest)) :
    ∃ g', A = some ⟨g', 0, none⟩ ∧ N = rest.length + 1 ∧ N ≤ c ∧ w.cell? ⟨g', 1, none⟩ = some (.int .i64 K) ∧ w.frozen? ⟨g', 1, none⟩ = false ∧ gs ≤ g' ∧
      ∀ K' : Nat, OwnN gs (w.setCell ⟨g', 1, none⟩ (.int .i64 (K' : Int))) (.slice (some ⟨g', 0, none⟩) N c) (hdN 6 K' :: rest) := by
  obtain ⟨hN, hc, -⟩ := h.cap
  obtain ⟨g', cap, hv, hb, -⟩ := h.opened (by simp)
  injection hv with e1 e2 e3
  subst e1 e3
  have h' : OwnN gs w (.slice (some ⟨g', 0, none⟩) (hdN 6 K :: rest).length c) (hdN 6 K :: rest) := by rw [← hN]; exact h
  have h1 : w.cell? ⟨g', 0 * 6 + 1, none⟩ = some (.int .i64 (K : Int)) := Own.cell ndc_len (k := 0) (j := 1) h' rfl rfl
  refine ⟨g', rfl, by rw [hN]; rfl, hc, by simpa using h1, h'.free 1, hb, fun K' => ?_⟩
  have h2 := Own.put ndc_len (k := 0) (j := 1) (y := hdN 6 K') (u := .int .i64 (K' : Int)) h' rfl (by decide) rfl
  rw [hN]
  simpa using h2

end Go.Proofs.YtafbojiojeemoaaGreatDoor

/-
  Plain words: the values of the live question. No program stands here.
-/
namespace Go.Proofs.YtafbojiojeemoaaGreatDoor
open Go.RowKit Np Rw Vp

abbrev trueN : Nd := ⟨2, 0, [], [], false, 0⟩
def oneT : Tr Nd := .mk trueN []
def twoT : Tr Nd := arrT [oneT, oneT]
def obT : Tr Nd := objT [nmd [97] oneT, nmd [98] twoT]
theorem one_val : Val oneT := ⟨okT_mk.2 ⟨rfl, by simp⟩, by rw [oneT, rightT_mk]; rfl, rfl⟩
theorem two_val : Val twoT := val_arrT (by intro t ht; simp at ht; rw [ht]; exact one_val)
theorem vld_a : vld [97] = true := by decide
theorem vld_b : vld [98] = true := by decide
theorem ob_val : Val obT := val_objT (by
    intro t ht
    simp at ht
    rcases ht with rfl | rfl
    · exact ⟨okT_nmd one_val.ok, by rw [rightT_nmd]; exact one_val.rt⟩
    · exact ⟨okT_nmd two_val.ok, by rw [rightT_nmd]; exact two_val.rt⟩) ⟨by simp [Rise, nmd_name]; decide, by
    intro t ht
    simp at ht
    rcases ht with rfl | rfl
    · exact vld_a
    · exact vld_b⟩
def oneL : List Nd := [trueN]
def twoL : List Nd := [hdN 5 2, trueN, trueN]
def obL : List Nd := [hdN 6 2, nmN [97] trueN, nmN [98] (hdN 5 2), trueN, trueN]
theorem flat_one : flat oneT = oneL := by simp [oneT, oneL, flat]
theorem flat_two : flat twoT = twoL := by rw [twoT, flat_arrT]; simp [oneT, twoL, flat]
theorem flat_ob : flat obT = obL := by rw [obT, flat_objT]; simp [nmd, oneT, twoT, arrT, obL, flat]
end Go.Proofs.YtafbojiojeemoaaGreatDoor

/-
  What the document's own answers Field, Without and With are, and the walk of the statement ValFields: it returns true. (One text, as a claim holds 60 files at most.)
-/
namespace Go.Proofs.YtafbojiojeemoaaGreatDoor
open Go.RowKit Np Rw Vp

theorem field_none {t : Tr Nd} {nm : List UInt8} (h : ∀ j s, j < (namesT t).length → (namesT t)[j]? = some s → s ≠ nm) : midT nm t = [] := by
  rw [midT]
  by_cases hk : t.nd.kind = 6
  · rw [if_pos hk]
    refine List.filter_eq_nil_iff.2 fun u hu => ?_
    obtain ⟨j, hj, rfl⟩ := List.getElem_of_mem hu
    have h1 := h j (t.ks[j].nd.name) (by rw [namesT, if_pos hk, List.length_map]; exact hj) (by rw [namesT, if_pos hk, List.getElem?_map, List.getElem?_eq_getElem hj]; rfl)
    simpa using h1
  · rw [if_neg hk]
theorem field_hit {t : Tr Nd} {nm : List UInt8} {k : Nat} (h : ∀ j s, j < k → (namesT t)[j]? = some s → s ≠ nm) (hk : (namesT t)[k]? = some nm) : ∃ u, t.ks[k]? = some u ∧ fieldV nm t = flat (nmd [] u) ∧ fieldB nm t = true := by
  by_cases h6 : t.nd.kind = 6
  · rw [namesT, if_pos h6] at h hk
    rw [List.getElem?_map] at hk
    cases hu : t.ks[k]? with
    | none => rw [hu] at hk; cases hk
    | some u =>
      rw [hu] at hk
      injection hk with hk
      have hs := flat_split_at hu
      have hf : (t.ks.take k).filter (fun u => decide (u.nd.name = nm)) = [] := by
        refine List.filter_eq_nil_iff.2 fun x hx => ?_
        obtain ⟨j, hj, rfl⟩ := List.getElem_of_mem hx
        rw [List.length_take] at hj
        have h1 := h j (t.ks[j]'(by omega)).nd.name (by omega) (by rw [List.getElem?_map, List.getElem?_eq_getElem (by omega)]; rfl)
        simpa using h1
      have hm : midT nm t = u :: (t.ks.drop (k + 1)).filter (fun u => decide (u.nd.name = nm)) := by
        rw [midT, if_pos h6]
        conv => lhs; rw [hs]
        rw [List.filter_append, hf, List.nil_append, List.filter_cons_of_pos (by simpa using hk)]
      exact ⟨u, rfl, by rw [fieldV, hm], by rw [fieldB, hm]; rfl⟩
  · rw [namesT, if_neg h6] at hk
    cases hk


/-- The places of the other names. -/
def kept (names : List (List UInt8)) (nm : List UInt8) (k : Nat) : List Nat := (List.range k).filter (fun j => decide (atN names j ≠ nm))
theorem kept_same {names : List (List UInt8)} {nm : List UInt8} {k : Nat} (h : atN names k = nm) : kept names nm (k + 1) = kept names nm k := by
  unfold kept
  rw [List.range_succ, List.filter_append]
  have : List.filter (fun j => decide (atN names j ≠ nm)) [k] = [] := List.filter_eq_nil_iff.2 (fun x hx => by
    have := List.mem_singleton.1 hx
    subst this; simpa using h)
  rw [this, List.append_nil]
theorem kept_other {names : List (List UInt8)} {nm : List UInt8} {k : Nat} (h : atN names k ≠ nm) : kept names nm (k + 1) = kept names nm k ++ [k] := by
  unfold kept
  rw [List.range_succ, List.filter_append]
  have : List.filter (fun j => decide (atN names j ≠ nm)) [k] = [k] := List.filter_eq_self.2 (fun x hx => by
    have := List.mem_singleton.1 hx
    subst this; simpa using h)
  rw [this]
theorem kept_lt {names : List (List UInt8)} {nm : List UInt8} {k i : Nat} (h : i ∈ kept names nm k) : i < k := by
  have := (List.mem_filter.1 h).1
  simpa using this
theorem kept_len (names : List (List UInt8)) (nm : List UInt8) (k : Nat) : (kept names nm k).length ≤ k := by
  have := List.length_filter_le (fun j => decide (atN names j ≠ nm)) (List.range k)
  rw [List.length_range] at this
  exact this
theorem kept_zip (names : List (List UInt8)) (L : List (List Nd)) (nm : List UInt8) (h : names.length = L.length) : ((kept names nm names.length).map fun j => (atN names j, atL L j)) = (names.zip L).filter (fun x => decide (x.1 ≠ nm)) := by
  rw [← range_zip names L h, List.filter_map]; rfl
theorem less_ks {t : Tr Nd} {nm : List UInt8} (h : Val t) (hk : t.nd.kind = 6) : t.ks.filter (fun u => decide (u.nd.name ≠ nm)) = (lessT nm t).ks := by
  have hc := h.cut hk nm
  have hne : ∀ {a b : List UInt8}, a < b → a ≠ b := fun h1 h2 => List.lt_irrefl _ (h2 ▸ h1)
  show _ = loT nm t.ks ++ ([] ++ hiT nm t.ks)
  conv => lhs; rw [hc.all]
  rw [List.filter_append, List.filter_append, List.filter_eq_self.2 (fun u hu => by simpa using hne (hc.lo u hu)), List.filter_eq_nil_iff.2 (fun u hu => by simpa using hc.eq u hu), List.filter_eq_self.2 (fun u hu => by simpa using (hne (hc.hi u hu)).symm)]
theorem kept_less {t : Tr Nd} {nm : List UInt8} (h : Val t) (hk : t.nd.kind = 6) :
    (kept (t.ks.map fun k => k.nd.name) nm (t.ks.map fun k => k.nd.name).length).map (atN (t.ks.map fun k => k.nd.name)) = (lessT nm t).ks.map (fun k => k.nd.name) ∧
    (kept (t.ks.map fun k => k.nd.name) nm (t.ks.map fun k => k.nd.name).length).map (atL (t.ks.map fun k => flat (nmd [] k))) = (lessT nm t).ks.map (fun k => flat (nmd [] k)) := by
  have h1 := kept_zip (t.ks.map fun k => k.nd.name) (t.ks.map fun k => flat (nmd [] k)) nm (by simp)
  rw [List.zip_map', List.filter_map] at h1
  have h2 : ((kept (t.ks.map fun k => k.nd.name) nm (t.ks.map fun k => k.nd.name).length).map fun j => (atN (t.ks.map fun k => k.nd.name) j, atL (t.ks.map fun k => flat (nmd [] k)) j)) = (t.ks.filter (fun u => decide (u.nd.name ≠ nm))).map (fun k => (k.nd.name, flat (nmd [] k))) := h1
  rw [less_ks h hk] at h2
  constructor
  · have := congrArg (List.map Prod.fst) h2
    rw [List.map_map, List.map_map] at this; exact this
  · have := congrArg (List.map Prod.snd) h2
    rw [List.map_map, List.map_map] at this; exact this
theorem sum_parts : ∀ us : List (Tr Nd), ((us.map fun k => flat (nmd [] k)).map List.length).sum = (flats us).length
  | [] => rfl
  | k :: us => by rw [flats_cons, List.length_append, ← sum_parts us]; simp [flat_nmd_len]

set_option maxRecDepth 100000 in
set_option maxHeartbeats 4000000 in
theorem refWithout_any (v : Value) (t : Tr Nd) (nm : List UInt8) (w : World) (hv : Nds w v (flat t)) (hl : (flat t).length ≤ 65536) (ht : Val t) (hk : t.nd.kind = 6) :
    Calls Tryz.prog 76 #[v, .string ⟨nm.toArray⟩] w (OwnsN w (flat (lessT nm t))) := by
  have hN := refNames_own v t w hv hl ht
  rw [namesT, if_pos hk] at hN
  have HN := Lib.hid hN
  have HP := Lib.hid (fun (W : World) (hb : Below w.heap.size w W) => refParts_own v t W (hv.below hb) hl ht)
  have HKL := Lib.hid (kept_less (nm := nm) ht hk)
  have hnl : (t.ks.map fun k => k.nd.name).length ≤ 65536 := by
    have h1 := flats_len t.ks
    rw [flat_eq] at hl
    simp at hl ⊢
    omega
  have HSUM : Hid (((lessT nm t).ks.map fun k => flat (nmd [] k)).length ≤ 65536 ∧ (((lessT nm t).ks.map fun k => flat (nmd [] k)).map List.length).sum ≤ 131072) := Lib.hid (by
    have h1 := len_parts ht hk nm
    have h2 := len_less nm t
    rw [sum_parts]
    rw [show flat (lessT nm t) = hdN 6 (lessT nm t).ks.length :: flats (lessT nm t).ks from flat_objT _, List.length_cons] at h2
    have h3 := flats_len (lessT nm t).ks
    simp only [List.length_map]
    omega)
  have HANS : Hid (hdN 6 ((lessT nm t).ks.map fun k => flat (nmd [] k)).length :: laid (((lessT nm t).ks.map fun k => k.nd.name).zip ((lessT nm t).ks.map fun k => flat (nmd [] k))) = flat (lessT nm t)) := Lib.hid (by
    rw [laid_named, List.length_map]; exact (flat_objT _).symm)
  have HNE : Hid (∀ l ∈ ((lessT nm t).ks.map fun k => flat (nmd [] k)), l ≠ []) := Lib.hid (fun l hl e => by
    obtain ⟨k, hk, rfl⟩ := List.mem_map.1 hl
    have := flat_pos (nmd [] k)
    rw [e] at this
    exact absurd this (by simp))
  have HLL : Hid ((t.ks.map fun k => k.nd.name).length = (t.ks.map fun k => flat (nmd [] k)).length) := Lib.hid (by simp)
  have HLQ : Hid (((lessT nm t).ks.map fun k => k.nd.name).length = ((lessT nm t).ks.map fun k => flat (nmd [] k)).length) := Lib.hid (by simp)
  clear hN hv hl ht hk
  generalize (lessT nm t).ks.map (fun k => flat (nmd [] k)) = LQ at *
  generalize (lessT nm t).ks.map (fun k => k.nd.name) = NQ at *
  generalize (t.ks.map fun k => flat (nmd [] k)) = L at *
  generalize (t.ks.map fun k => k.nd.name) = names at *
  generalize flat (lessT nm t) = ans at *
  go_enter Tryz.func76, Tryz.ntmps76
  go_wp2_with fail
  refine HN.out.mono ?_
  rintro e w1 ⟨v1, rfl, ho1, hb1⟩
  have HO1 := Lib.hid ho1
  have HB1 := Lib.hid hb1
  clear ho1 hb1
  go_wp2_with fail
  refine (HP.out _ HB1.out).mono ?_
  rintro e w2 ⟨v2, zs, rfl, ho2, he2, hb2⟩
  have HE : Hid (Els w2 zs L) := Lib.hid ⟨he2.1, fun k z l a b => (he2.2 k z l a b).row ndc_len⟩
  obtain ⟨A, c, rfl, hc, hcm, -, H⟩ := (HO1.out.row stc_len).below hb2
  obtain ⟨A2, c2, rfl, hc2, hcm2, -, H2⟩ := ho2.row slc_len
  have HB2 := Lib.hid (Below.after HB1.out hb2)
  have hzl : zs.length = names.length := by rw [HE.out.1, HLL.out]
  rw [hzl] at H2 hc2 ⊢
  have HH := Lib.hid H
  have HH2 := Lib.hid H2
  have HZL := Lib.hid hzl
  clear ho2 he2 hb2 H H2 hzl
  have HS0 : Hid (Own stc 1 9 w2.heap.size ((w2.alloc (.cells #[] 9)).alloc (.cells #[] 24)) (.slice (some ⟨w2.heap.size, 0, none⟩) 0 0) []) := Lib.hid ((Own.lit (base := w2.heap.size) (E := 9) stc_len w2 #[] [] (Nat.le_refl _) (by simp) rfl).alloc _)
  have HZ0 : Hid (Own slc 1 24 w2.heap.size ((w2.alloc (.cells #[] 9)).alloc (.cells #[] 24)) (.slice (some ⟨w2.heap.size + 1, 0, none⟩) 0 0) []) := Lib.hid (by
    have := Own.lit (base := w2.heap.size) (E := 24) slc_len (w2.alloc (.cells #[] 9)) #[] [] (by simp) (by simp) rfl
    simpa using this)
  generalize hn : names.length = n at *
  have HNN := Lib.hid hn
  clear hn
  go_wp2_with fail
  go_loopw [7, 8, 9] (fun sv zv i wr => ∃ k : Nat, k ≤ n ∧ i = .int .i64 k ∧ Own stc 1 9 w2.heap.size wr sv ((kept names nm k).map (atN names)) ∧ Own slc 1 24 w2.heap.size wr zv ((kept names nm k).map fun j => zs.getD j (none, 0, 0)) ∧ Below w2.heap.size w2 wr) (fun _ _ i _ => n - (intOf i).toNat)
  case atStart => exact ⟨0, Nat.zero_le _, rfl, HS0.out, HZ0.out, ((Below.refl _ _).alloc (Nat.le_refl _) _).alloc (by simp) _⟩
  case round =>
    obtain ⟨k, hk, rfl, hs, hz, hb⟩ := hrel
    obtain ⟨As, cs, rfl, hcs, hcs2, -⟩ := hs.form
    obtain ⟨Az, cz, rfl, hcz, hcz2, -⟩ := hz.form
    have hpl := kept_len names nm k
    have HPL := Lib.hid (fun (i : Nat) (h : i ∈ kept names nm k) => kept_lt h)
    have HKQ := Lib.hid (fun (h : k = n) => (by rw [← h] at HKL; exact HKL.out : (kept names nm k).map (atN names) = NQ ∧ (kept names nm k).map (atL L) = LQ))
    have HKS := Lib.hid (kept_same (names := names) (nm := nm) (k := k))
    have HKO := Lib.hid (kept_other (names := names) (nm := nm) (k := k))
    generalize kept names nm k = p at hs hz hpl HPL HKQ HKS HKO hcs hcz ⊢
    simp only [List.length_map] at hs hz hcs hcz ⊢
    have HS := Lib.hid hs
    have HZ := Lib.hid hz
    have HB := Lib.hid hb
    clear hs hz hb
    by_cases hlt : k < n
    · obtain ⟨g, o, rfl, hg, hx⟩ := HH.out (by omega)
      obtain ⟨g2, o2, rfl, hg2, hx2⟩ := HH2.out (by omega)
      have hkx : names[k]? = some (atN names k) := by rw [atN, List.getD_eq_getElem?_getD, List.getElem?_eq_getElem (by rw [HNN.out]; exact hlt)]; rfl
      obtain ⟨zb, hzb⟩ : ∃ a, zs[k]? = some a := ⟨_, List.getElem?_eq_getElem (by rw [HZL.out]; exact hlt)⟩
      have n0 := (HB.out.cell (p := ⟨g, o + k, none⟩) hg).trans (hx k _ hkx).st
      have HZW : Hid (w2.cell? ⟨g2, o2 + k, none⟩ = some (.slice zb.1 zb.2.1 zb.2.2)) := Lib.hid (hx2 k zb hzb).one
      have HNW : Hid (w2.cell? ⟨g, o + k, none⟩ = some (.string ⟨(atN names k).toArray⟩)) := Lib.hid (hx k _ hkx).st
      have HZB : Hid (zs.getD k (none, 0, 0) = zb) := Lib.hid (by rw [List.getD_eq_getElem?_getD, hzb]; rfl)
      have hki : (k : Int) < n := by omega
      clear hkx hzb hx hx2
      generalize hans : atN names k = nb at n0 HNW HKS HKO
      have HNB := Lib.hid hans
      clear hans
      by_cases he : nb = nm
      · have HSK := Lib.hid (HKS.out he)
        subst he
        go_wp2_with fail
        go_roundw
        case rel => exact ⟨k + 1, by omega, by go_num, by rw [HSK.out]; exact HS.out, by rw [HSK.out]; exact HZ.out, HB.out⟩
        case measure => simp [intOf]; omega
      · have hne : (nb == nm) = false := by simp [he]
        have HOK := Lib.hid (HKO.out he)
        clear he
        go_wp2_with (at_builtin; refine wpList_append_row (base := w2.heap.size) elText rfl _ _ rfl rfl (HS.out.alloc _) rfl (row_one stc_len wr _ rfl 9 #[.string ⟨nb.toArray⟩] nb rfl) ?_ ?_ ?_ ?_)
        · unfold maxLen; simp; omega
        · simp; omega
        · have := HB.out.size; simp; omega
        · intro A4 c4 w4 hown4 hg4 hwh
          clear hwh
          have HS4 : Hid (Own stc 1 9 w2.heap.size w4 (.slice A4 (p.length + 1) c4) ((p ++ [k]).map (atN names))) := Lib.hid (by rw [List.map_append]; show Own _ _ _ _ _ _ (p.map (atN names) ++ [atN names k]); rw [HNB.out]; simpa using hown4)
          have HZ4 := Lib.hid (Own.aside (HZ.out.alloc _) (HS.out.alloc _) (by decide) hg4)
          have HB4 : Hid (Below w2.heap.size w2 w4) := Lib.hid ((HB.out.alloc HB.out.size _).trans ((HS.out.alloc _).kept hg4 (by have := HB.out.size; simp; omega)))
          clear hown4 hg4 n0
          have z4 := (HB4.out.cell (p := ⟨g2, o2 + k, none⟩) hg2).trans HZW.out
          try simp only [List.length_map]
          go_wp2_with (at_builtin; refine wpList_append_row (base := w2.heap.size) elVal rfl _ _ rfl rfl (HZ4.out.alloc _) rfl (row_one slc_len w4 _ rfl 24 #[.slice zb.1 zb.2.1 zb.2.2] zb rfl) ?_ ?_ ?_ ?_)
          · unfold maxLen; simp; omega
          · simp; omega
          · have := HB4.out.size; simp; omega
          · intro A5 c5 w5 hown5 hg5 hwh
            clear hwh
            have HZ5 : Hid (Own slc 1 24 w2.heap.size w5 (.slice A5 (p.length + 1) c5) ((p ++ [k]).map fun j => zs.getD j (none, 0, 0))) := Lib.hid (by rw [List.map_append]; show Own _ _ _ _ _ _ ((p.map fun j => zs.getD j (none, 0, 0)) ++ [zs.getD k (none, 0, 0)]); rw [HZB.out]; simpa using hown5)
            have HS5 := Lib.hid (Own.aside (HS4.out.alloc _) (HZ4.out.alloc _) (by decide) hg5)
            have HB5 : Hid (Below w2.heap.size w2 w5) := Lib.hid ((HB4.out.alloc HB4.out.size _).trans ((HZ4.out.alloc _).kept hg5 (by have := HB4.out.size; simp; omega)))
            clear hown5 hg5 z4
            try simp only [List.length_map]
            go_wp2_with fail
            go_roundw
            case rel => exact ⟨k + 1, by omega, by go_num, by rw [HOK.out]; exact HS5.out, by rw [HOK.out]; exact HZ5.out, HB5.out⟩
            case measure => simp [intOf]; omega
    · have hkn : k = n := by omega
      obtain ⟨h1, h2⟩ := HKQ.out hkn
      obtain ⟨wo, rfl⟩ : ∃ wo : World, wo = wr := ⟨_, rfl⟩
      have HS1 : Hid (Sts wo (.slice As p.length cs) NQ) := Lib.hid (by rw [← h1]; exact HS.out.row stc_len)
      have HV1 : Hid (Vls wo (.slice Az p.length cz) LQ) := Lib.hid (by
        rw [← h2]
        refine Els.vls (zs := p.map fun j => zs.getD j (none, 0, 0)) ⟨by simp, fun q z l hz hl => ?_⟩ (HZ.out.row slc_len)
        rw [List.getElem?_map] at hz hl
        cases hi : p[q]? with
        | none => rw [hi] at hz; cases hz
        | some i =>
          rw [hi] at hz hl
          injection hz with hz
          injection hl with hl
          have hin := HPL.out i (List.mem_of_getElem? hi)
          have hx := HE.out.2 i z l (by rw [← hz]; show zs[i]? = some (zs.getD i (none, 0, 0)); rw [List.getD_eq_getElem?_getD, List.getElem?_eq_getElem (by rw [HZL.out]; omega)]; rfl) (by rw [← hl]; show L[i]? = some (L.getD i []); rw [List.getD_eq_getElem?_getD, List.getElem?_eq_getElem (by rw [← HLL.out]; omega)]; rfl)
          exact hx.below HB.out)
      have HQ := Lib.hid (refNamed_any _ _ _ _ _ HS1.out HV1.out HLQ.out HSUM.out.1 HSUM.out.2 HNE.out)
      clear h1 h2 hkn hpl hcs hcz
      go_wp2_with fail
      refine HQ.out.mono ?_
      rintro e w3 ⟨v3, rfl, ho3, hB3⟩
      have HO3 := Lib.hid ho3
      have HB3 := Lib.hid hB3
      clear ho3 hB3
      go_wp2_with fail
      go_ret
      exact ⟨_, rfl, by rw [← HANS.out]; exact HO3.out.mono (Nat.le_trans HB2.out.size HB.out.size), Below.after HB2.out (Below.after HB.out HB3.out)⟩

theorem objV_perm {ts us : List (Tr Nd)} (hp : ts.Perm us) (hB : objB (us.map fun k => k.nd.name) (us.map fun k => flat (nmd [] k)) = true) :
    objV (ts.map fun k => k.nd.name) (ts.map fun k => flat (nmd [] k)) = objV (us.map fun k => k.nd.name) (us.map fun k => flat (nmd [] k)) := by
  obtain ⟨h1, h2, h3⟩ := objB_iff.1 hB
  have h2' : (ts.map fun k => k.nd.name).Nodup := (hp.map _).nodup_iff.2 h2
  have hA : objB (ts.map fun k => k.nd.name) (ts.map fun k => flat (nmd [] k)) = true := objB_iff.2 ⟨by simp, h2', fun s hs => h3 s ((hp.map _).mem_iff.1 hs)⟩
  have hz : ((ts.map fun k => k.nd.name).zip (ts.map fun k => flat (nmd [] k))).Perm ((us.map fun k => k.nd.name).zip (us.map fun k => flat (nmd [] k))) := by
    rw [List.zip_map', List.zip_map']; exact hp.map _
  rw [objV, objV, if_pos hA, if_pos hB, srt_perm hz (by rw [zip_keys (by simp)]; exact h2'), List.length_map, List.length_map, hp.length_eq]
theorem with_obj {t x : Tr Nd} {nm : List UInt8} (h : Val t) (hk : t.nd.kind = 6) (hx : Val x) (hn : vld nm = true) :
    objV ((lessT nm t).ks.map (fun k => k.nd.name) ++ [nm]) ((lessT nm t).ks.map (fun k => flat (nmd [] k)) ++ [flat x]) = flat (withT nm x t) := by
  obtain ⟨hb, hv⟩ := obj_again (val_put h hk hx hn) (show (withT nm x t).nd.kind = 6 from rfl)
  have hp : ((lessT nm t).ks ++ [nmd nm x]).Perm (withT nm x t).ks := by
    show ((loT nm t.ks ++ ([] ++ hiT nm t.ks)) ++ [nmd nm x]).Perm (loT nm t.ks ++ ([nmd nm x] ++ hiT nm t.ks))
    rw [List.nil_append, List.append_assoc]
    exact List.Perm.append_left _ List.perm_append_comm
  have h1 := objV_perm hp hb
  rw [hv, List.map_append, List.map_append] at h1
  rw [← h1]
  congr 2
  show [flat x] = [flat (nmd [] (nmd nm x))]
  rw [nmd_nmd, ← hx.nm, nmd_self]

theorem els_snoc {w : World} {zs : List (Option Addr × Nat × Nat)} {L : List (List Nd)} {z : Option Addr × Nat × Nat} {l : List Nd} (h : Els w zs L) (hz : Nds w (.slice z.1 z.2.1 z.2.2) l) : Els w (zs ++ [z]) (L ++ [l]) := by
  refine ⟨by simp [h.1], fun k y m h1 h2 => ?_⟩
  rcases Nat.lt_trichotomy k zs.length with hk | hk | hk
  · rw [List.getElem?_append_left hk] at h1
    rw [List.getElem?_append_left (by rw [← h.1]; exact hk)] at h2
    exact h.2 k y m h1 h2
  · subst hk
    rw [List.getElem?_append_right (Nat.le_refl _)] at h1
    rw [h.1, List.getElem?_append_right (Nat.le_refl _)] at h2
    simp at h1 h2
    subst h1 h2
    exact hz
  · rw [List.getElem?_eq_none (by simp; omega)] at h1; cases h1

set_option maxRecDepth 100000 in
set_option maxHeartbeats 4000000 in
theorem refWith_any (v p : Value) (t x : Tr Nd) (nm : List UInt8) (w : World) (hv : Nds w v (flat t)) (hp : Nds w p (flat x)) (hl : (flat t).length ≤ 500) (hlx : (flat x).length ≤ 500) (ht : Val t) (hk : t.nd.kind = 6) (hx : Val x) (hn : vld nm = true) (hnm : nm.length ≤ maxLen) (hsh : ∀ s ∈ t.ks.map (fun k => k.nd.name), s.length ≤ maxLen) :
    Calls Tryz.prog 40 #[v, .string ⟨nm.toArray⟩, p] w (OwnsN w (flat (withT nm x t))) := by
  have hlen := len_parts ht hk nm
  have hlen2 := len_less nm t
  have HLL : Hid ((flat (lessT nm t)).length ≤ 500) := Lib.hid (by omega)
  have HW := Lib.hid (refWithout_any v t nm w hv (by omega) ht hk)
  have HVL := Lib.hid (val_less (nm := nm) ht hk)
  have HANS := Lib.hid (with_obj ht hk hx hn)
  have hnT : namesT (lessT nm t) = (lessT nm t).ks.map fun k => k.nd.name := by rw [namesT, if_pos (show (lessT nm t).nd.kind = 6 from rfl)]
  have HN := Lib.hid (fun (v1 : Value) (W : World) (h : Nds W v1 (flat (lessT nm t))) => (by have := refNames_own v1 (lessT nm t) W h (by have := HLL.out; omega) HVL.out; rwa [hnT] at this : Calls Tryz.prog 73 #[v1] W (OwnsS W ((lessT nm t).ks.map fun k => k.nd.name))))
  have HP := Lib.hid (fun (v1 : Value) (W : World) (h : Nds W v1 (flat (lessT nm t))) => refParts_own v1 (lessT nm t) W h (by have := HLL.out; omega) HVL.out)
  have hfl : (flat (lessT nm t)).length = 1 + (flats (lessT nm t).ks).length := by
    rw [show flat (lessT nm t) = hdN 6 (lessT nm t).ks.length :: flats (lessT nm t).ks from flat_objT _, List.length_cons]; omega
  have h3 := flats_len (lessT nm t).ks
  have hq1 : ((lessT nm t).ks.map fun k => k.nd.name).length ≤ 500 := by rw [List.length_map]; omega
  have HQ2 : Hid ((((lessT nm t).ks.map fun k => flat (nmd [] k)).map List.length).sum ≤ 500) := Lib.hid (by rw [sum_parts]; omega)
  have HQ3 : Hid (((lessT nm t).ks.map fun k => k.nd.name).length = ((lessT nm t).ks.map fun k => flat (nmd [] k)).length) := Lib.hid (by simp)
  have HQ4 : Hid (∀ l ∈ ((lessT nm t).ks.map fun k => flat (nmd [] k)), l ≠ []) := Lib.hid (fun l hl e => by
    obtain ⟨k, hk, rfl⟩ := List.mem_map.1 hl
    have := flat_pos (nmd [] k)
    rw [e] at this
    exact absurd this (by simp))
  have HQ5 : Hid (∀ s ∈ ((lessT nm t).ks.map fun k => k.nd.name), s.length ≤ maxLen) := Lib.hid (fun s hs => by
    obtain ⟨k, hk', rfl⟩ := List.mem_map.1 hs
    rw [← less_ks ht hk] at hk'
    exact hsh _ (List.mem_map_of_mem (List.mem_filter.1 hk').1))
  have HPX := Lib.hid hp
  have HLX := Lib.hid hlx
  have HNM := Lib.hid hnm
  have HXP := Lib.hid (flat_pos x)
  obtain ⟨Ap, cp, rfl, -⟩ := hp
  generalize hR : (lessT nm t).ks.map (fun k => flat (nmd [] k)) = L at *
  generalize hR2 : (lessT nm t).ks.map (fun k => k.nd.name) = names at *
  generalize flat (lessT nm t) = fl at *
  generalize flat (withT nm x t) = ans at *
  clear hR hR2 hv hl hlx ht hk hx hn hnm hsh hlen hlen2 hnT hfl h3
  generalize hfx : flat x = fx at *
  clear hfx
  generalize hxl : fx.length = xl at *
  have HXL := Lib.hid hxl
  clear hxl
  generalize hnn : names.length = n at *
  have HNN := Lib.hid hnn
  clear hnn
  go_enter Tryz.func40, Tryz.ntmps40
  go_wp2_with fail
  refine HW.out.mono ?_
  rintro e w1 ⟨v1, rfl, ho1, hb1⟩
  have HL1 := Lib.hid (ho1.row ndc_len)
  have HB1 := Lib.hid hb1
  clear ho1 hb1
  go_wp2_with fail
  refine (HN.out _ _ HL1.out).mono ?_
  rintro e w2 ⟨v2, rfl, ho2, hb2⟩
  obtain ⟨A2, c2, rfl, hc2, hm2, -⟩ := ho2.form
  have HO2 := Lib.hid ho2
  have HB2 := Lib.hid hb2
  clear ho2 hb2
  rw [HNN.out] at HO2 hc2 ⊢
  go_wp2_with (at_builtin; refine wpList_append_row (base := w1.heap.size) elText rfl _ _ rfl rfl ((by have := HO2.out.alloc (.cells #[.string ⟨nm.toArray⟩] 9); rw [← HNN.out] at this; rw [← HNN.out]; exact this) : Own stc 1 9 w1.heap.size (w2.alloc (.cells #[.string ⟨nm.toArray⟩] 9)) (.slice A2 n c2) names) rfl (row_one stc_len w2 _ rfl 9 #[.string ⟨nm.toArray⟩] nm rfl) ?_ ?_ ?_ ?_)
  · unfold maxLen; have := HNN.out; simp; omega
  · have := HNN.out; simp; omega
  · have := HB2.out.size; simp; omega
  · intro A3 c3 w3 hown3 hg3 hwh
    clear hwh
    have HO3 : Hid (Own stc 1 9 w1.heap.size w3 (.slice A3 (n + 1) c3) (names ++ [nm])) := Lib.hid (by have h := hown3; rw [HNN.out] at h; simpa using h)
    have HB3 : Hid (Below w1.heap.size w1 w3) := Lib.hid ((HB2.out.alloc HB2.out.size _).trans ((HO2.out.alloc _).kept hg3 (by have := HB2.out.size; simp; omega)))
    have HL3 := Lib.hid (HL1.out.below HB3.out)
    clear hown3 hg3
    try simp only [HNN.out]
    go_wp2_with fail
    refine (HP.out _ _ HL3.out).mono ?_
    rintro e w4 ⟨v4, zs, rfl, ho4, he4, hb4⟩
    obtain ⟨A4, c4, rfl, hc4, hm4, -⟩ := ho4.form
    have hzl : zs.length = n := by rw [he4.1, ← HQ3.out]
    have HZL := Lib.hid hzl
    have HO4 := Lib.hid ho4
    have HE4 := Lib.hid he4
    have HB4 := Lib.hid hb4
    rw [hzl] at HO4 hc4 ⊢
    clear ho4 he4 hb4 hzl
    go_wp2_with (at_builtin; refine wpList_append_row (base := w3.heap.size) elVal rfl _ _ rfl rfl (HO4.out.alloc _) rfl (row_one slc_len w4 _ rfl 24 #[.slice Ap xl cp] (Ap, xl, cp) rfl) ?_ ?_ ?_ ?_)
    · unfold maxLen; have := HZL.out; simp; omega
    · have := HZL.out; simp; omega
    · have := HB4.out.size; simp; omega
    · intro A5 c5 w5 hown5 hg5 hwh
      clear hwh
      have HO5 : Hid (Own slc 1 24 w3.heap.size w5 (.slice A5 (n + 1) c5) (zs ++ [(Ap, xl, cp)])) := Lib.hid (by have h := hown5; rw [HZL.out] at h; simpa using h)
      have HO4' : Hid (Own slc 1 24 w3.heap.size (w4.alloc (.cells #[.slice Ap xl cp] 24)) (.slice A4 n c4) zs) := Lib.hid (HO4.out.alloc _)
      have HB5 : Hid (Below w3.heap.size w3 w5) := Lib.hid ((HB4.out.alloc HB4.out.size _).trans (HO4'.out.kept hg5 (by have := HB4.out.size; simp; omega)))
      have HE5 := Lib.hid (Elems.aside (HE4.out.below ((Below.refl _ _).alloc (Nat.le_refl _) _)) HO4'.out hg5)
      have HBW := Lib.hid (Below.after (Below.after HB1.out HB3.out) HB5.out)
      have HS5 := Lib.hid ((HO3.out.row stc_len).below HB5.out)
      have HV5 := Lib.hid (Els.vls (els_snoc (z := (Ap, xl, cp)) ⟨HE5.out.1, fun k z l a b => (HE5.out.2 k z l a b).row ndc_len⟩ (HPX.out.below HBW.out)) (HO5.out.row slc_len))
      have hob := refObject_any _ _ (names ++ [nm]) (L ++ [fx]) w5 HS5.out HV5.out (by have := HNN.out; simp; omega) (by have h4 := HQ2.out; have h5 := HXL.out; have h6 := HLX.out; rw [List.map_append, List.sum_append]; simp only [List.map_cons, List.map_nil, List.sum_cons, List.sum_nil]; omega) (fun s hs => by
          rcases List.mem_append.1 hs with h | h
          · exact HQ5.out s h
          · rw [List.mem_singleton.1 h]; exact HNM.out) (fun l hl => by
          rcases List.mem_append.1 hl with h | h
          · exact HQ4.out l h
          · rw [List.mem_singleton.1 h]
            intro e
            have h6 := HXL.out
            rw [e] at h6
            have h7 := HXP.out
            simp at h6
            omega)
      have HOB := Lib.hid hob
      clear hown5 hg5 hob
      try simp only [HZL.out]
      go_wp2_with fail
      refine HOB.out.mono ?_
      rintro e w6 ⟨v6, rfl, ho6, hb6⟩
      rw [HANS.out] at ho6
      have HO6 := Lib.hid ho6
      have HB6 := Lib.hid hb6
      clear ho6 hb6
      go_wp2_with fail
      go_ret
      exact ⟨_, rfl, HO6.out.mono HBW.out.size, Below.after HBW.out HB6.out⟩

theorem refSame_twice (va vb : Value) (l : List Nd) (w : World) (ha : Nds w va l) (hb : Nds w vb l) :
    Calls Tryz.prog 11 #[va, vb] w fun e w' => e = .returned (.bool true) ∧ Below w.heap.size w w' :=
  (refSame_any va vb l l w ha hb).mono fun _ _ h => ⟨by rw [h.1]; simp, h.2⟩


end Go.Proofs.YtafbojiojeemoaaGreatDoor
