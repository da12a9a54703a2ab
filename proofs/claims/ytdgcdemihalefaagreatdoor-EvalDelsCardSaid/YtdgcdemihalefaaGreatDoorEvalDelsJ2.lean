/-
  Joined: FindP, TreeP, PaP, EvP, EvM, Pa1, Ev1, Ev2, Ev3, Ev4, Ev5, FwO, OTxP, OSrtP, ObjP2.
-/
import Derived.Test.YtdgcdemihalefaaGreatDoorValP2
import Derived.Test.YtdgcdemihalefaaGreatDoorEvalDelsJ1
import Derived.Test.YtdgcdemihalefaaGreatDoorMem
import Derived.Shelf.Abstract
import Derived.Deep.RegionHeld3
import Derived.Deep.RegionLaw

/-
  Plain words: where an object's part of a name stands, by a walk along its parts. No program stands here.
-/
namespace Go.Proofs.YtdgcdemihalefaaGreatDoor
namespace Vp
open Go.RowKit Np Rw

def passes (nm : List UInt8) (t : Tr Nd) : Prop := t.nd.name ≠ nm ∧ ¬ nm < t.nd.name
end Vp
end Go.Proofs.YtdgcdemihalefaaGreatDoor

/-
  Plain words: objects as trees: parts by their names; one with another part, or without one; what is right of them. No program stands here.
-/
namespace Go.Proofs.YtdgcdemihalefaaGreatDoor
namespace Vp
open Go.RowKit Np Rw

def nmN (nm : List UInt8) (n : Nd) : Nd := { n with name := nm }
def nmd (nm : List UInt8) (t : Tr Nd) : Tr Nd := .mk (nmN nm t.nd) t.ks
theorem nmd_self (t : Tr Nd) : nmd t.nd.name t = t := by cases t; rfl
theorem flat_nmd (nm : List UInt8) (t : Tr Nd) : flat (nmd nm t) = setNm nm (flat t) := by rw [nmd, flat_mk, flat_eq t]; rfl
theorem flat_nmd_len (nm : List UInt8) (t : Tr Nd) : (flat (nmd nm t)).length = (flat t).length := by rw [flat_nmd, setNm_len]
theorem plainN_nm (nm : List UInt8) (n : Nd) : plainN (nmN nm n) = plainN n := by unfold plainN nmN; rfl
theorem okT_nmd {nm : List UInt8} {t : Tr Nd} (h : okT many t) : okT many (nmd nm t) := okT_mk.2 (okT_eq.1 h)
theorem rightT_nmd (nm : List UInt8) (t : Tr Nd) : rightT (nmd nm t) = rightT t := by rw [nmd, rightT_mk, rightT_eq, plainN_nm]; rfl
theorem Val.clr {u : Tr Nd} (h1 : okT many u) (h2 : rightT u = true) : Val (nmd [] u) := ⟨okT_nmd h1, by rw [rightT_nmd]; exact h2, rfl⟩
/-- Names that rise, of parts. -/
def Rise (ts : List (Tr Nd)) : Prop := ts.Pairwise (fun a b => a.nd.name < b.nd.name)
def Named (ts : List (Tr Nd)) : Prop := Rise ts ∧ ∀ t ∈ ts, vld t.nd.name = true
theorem nameOk_six (t : Tr Nd) : nameOk 6 t = vld t.nd.name := by simp [nameOk]
theorem rising_named : ∀ ts : List (Tr Nd), rising 6 ts = true ↔ Named ts
  | [] => by simp [rising, Named, Rise]
  | [t] => by simp [rising, Named, Rise, nameOk_six]
  | t :: u :: ts => by
    have ih := rising_named (u :: ts)
    rw [rising, Bool.and_eq_true, Bool.and_eq_true, nameOk_six, ih]
    unfold Named Rise
    rw [List.pairwise_cons (l := u :: ts)]
    constructor
    · rintro ⟨⟨h1, h2⟩, h3, h4⟩
      have h2' : t.nd.name < u.nd.name := by simpa using h2
      refine ⟨⟨fun b hb => ?_, h3⟩, fun x hx => ?_⟩
      · rcases List.mem_cons.1 hb with rfl | hb
        · exact h2'
        · exact List.lt_trans h2' ((List.pairwise_cons.1 h3).1 b hb)
      · rcases List.mem_cons.1 hx with rfl | hx
        · exact h1
        · exact h4 x hx
    · rintro ⟨⟨h1, h2⟩, h3⟩
      exact ⟨⟨h3 t (by simp), by simpa using h1 u (by simp)⟩, h2, fun x hx => h3 x (by simp [hx])⟩

def Parts (ts : List (Tr Nd)) : Prop := ∀ t ∈ ts, okT many t ∧ rightT t = true
theorem rising_five : ∀ ts : List (Tr Nd), (∀ t ∈ ts, t.nd.name = []) → rising 5 ts = true
  | [], _ => rfl
  | [t], h => by rw [rising, nameOk, h t (by simp)]; rfl
  | t :: u :: ts, h => by
    rw [rising, nameOk, h t (by simp), rising_five (u :: ts) (fun x hx => h x (by simp [hx]))]; rfl
theorem five_rising : ∀ ts : List (Tr Nd), rising 5 ts = true → ∀ t ∈ ts, t.nd.name = []
  | [], _, t, ht => by simp at ht
  | [u], h, t, ht => by
    simp at ht; subst ht
    simp [rising, nameOk] at h; exact h.1
  | u :: x :: ts, h, t, ht => by
    rw [rising, Bool.and_eq_true, Bool.and_eq_true] at h
    rcases List.mem_cons.1 ht with rfl | ht
    · have := h.1.1; simp [nameOk] at this; exact this.1
    · exact five_rising (x :: ts) h.2 t ht
/-- What an object is. -/
theorem Val.parts {t : Tr Nd} (h : Val t) : Parts t.ks := val_kids h
theorem Val.plain {t : Tr Nd} (h : Val t) : plainN t.nd = true := by
  have := h.rt; rw [rightT_eq, Bool.and_eq_true] at this; exact this.1
theorem Val.named {t : Tr Nd} (h : Val t) (hk : t.nd.kind = 6) : Named t.ks := by
  have := h.rt
  rw [rightT_eq, Bool.and_eq_true, hk, rightKs_obj, Bool.and_eq_true] at this
  exact (rising_named _).1 this.2.1
theorem Val.leaf {t : Tr Nd} (h : Val t) (h5 : t.nd.kind ≠ 5) (h6 : t.nd.kind ≠ 6) : t.ks = [] := by
  have h1 := (plainN_many h.plain).2 h5 h6
  have h2 : t.nd.many = t.ks.length := (okT_eq.1 h.ok).1
  exact List.eq_nil_of_length_eq_zero (by omega)

/-- Parts ahead of a name, of it, and behind it. -/
structure Cut (nm : List UInt8) (ts pre mid post : List (Tr Nd)) : Prop where
  all : ts = pre ++ (mid ++ post)
  lo : ∀ u ∈ pre, u.nd.name < nm
  eq : ∀ u ∈ mid, u.nd.name = nm
  one : mid.length ≤ 1
  hi : ∀ u ∈ post, nm < u.nd.name
theorem cut_ex (nm : List UInt8) : ∀ ts : List (Tr Nd), Rise ts → ∃ pre mid post, Cut nm ts pre mid post
  | [], _ => ⟨[], [], [], rfl, by simp, by simp, by simp, by simp⟩
  | t :: ts, h => by
    obtain ⟨h1, h2⟩ := List.pairwise_cons.1 h
    by_cases he : t.nd.name = nm
    · exact ⟨[], [t], ts, rfl, by simp, by simpa using he, by simp, fun u hu => he ▸ h1 u hu⟩
    · by_cases hl : nm < t.nd.name
      · refine ⟨[], [], t :: ts, rfl, by simp, by simp, by simp, fun u hu => ?_⟩
        rcases List.mem_cons.1 hu with rfl | hu
        · exact hl
        · exact List.lt_trans hl (h1 u hu)
      · obtain ⟨pre, mid, post, hc⟩ := cut_ex nm ts h2
        refine ⟨t :: pre, mid, post, by rw [hc.all]; rfl, fun u hu => ?_, hc.eq, hc.one, hc.hi⟩
        rcases List.mem_cons.1 hu with rfl | hu
        · exact lt_of_ne hl he
        · exact hc.lo u hu
end Vp
end Go.Proofs.YtdgcdemihalefaaGreatDoor

/-
  Plain words: steps and paths; what stands at a path of a tree, and the tree with something else there. No program stands here.
-/
namespace Go.Proofs.YtdgcdemihalefaaGreatDoor
namespace Pw
open Go.RowKit Np Rw Vp

/-- A step: to a part of a list, or to a field. -/
structure St where
  part : Bool
  name : List UInt8
  n : Int
deriving DecidableEq
def rightS (s : St) : Bool := if s.part then decide (s.name = []) && decide (0 ≤ s.n) && decide (s.n ≤ 1000000) else decide (s.n = 0) && vld s.name
def rightP (p : List St) : Bool := p.all rightS && decide (p.length ≤ 20)
def stKind (s : St) : Int := if s.part then 5 else 6
/-- Is the step to the k-th part, of that name? -/
def lead (s : St) (k : Nat) (name : List UInt8) : Bool := if s.part then decide ((k : Int) = s.n) else decide (name = s.name)
/-- The first part that the step is to, by the parts' names. -/
def seekN (s : St) : List (List UInt8) → Nat → Option Nat
  | [], _ => none
  | a :: l, k => if lead s k a then some k else seekN s l (k + 1)
theorem seekN_ge (s : St) : ∀ (l : List (List UInt8)) (k j : Nat), seekN s l k = some j → k ≤ j ∧ j < k + l.length ∧ ∃ a, l[j - k]? = some a ∧ lead s j a = true
  | [], k, j, h => by simp [seekN] at h
  | a :: l, k, j, h => by
    rw [seekN] at h
    split at h
    · injection h with h
      subst h
      exact ⟨Nat.le_refl _, by simp, a, by simp, by assumption⟩
    · obtain ⟨h1, h2, b, h3, h4⟩ := seekN_ge s l (k + 1) j h
      refine ⟨by omega, by rw [List.length_cons]; omega, b, ?_, h4⟩
      rw [show j - k = (j - (k + 1)) + 1 by omega, List.getElem?_cons_succ]
      exact h3
def names (ts : List (Tr Nd)) : List (List UInt8) := ts.map fun t => t.nd.name
/-- The part of a value that a step is to. -/
def kid (s : St) (t : Tr Nd) : Option Nat := if t.nd.kind = stKind s then seekN s (names t.ks) 0 else none
theorem kid_lt {s : St} {t : Tr Nd} {k : Nat} (h : kid s t = some k) : k < t.ks.length ∧ t.nd.kind = stKind s ∧ ∃ u, t.ks[k]? = some u ∧ lead s k u.nd.name = true := by
  unfold kid at h
  split at h
  · rename_i hk
    obtain ⟨-, h2, a, h3, h4⟩ := seekN_ge s _ 0 k h
    have h5 : k < t.ks.length := by simpa [names] using h2
    refine ⟨h5, hk, t.ks[k], List.getElem?_eq_getElem h5, ?_⟩
    rw [Nat.sub_zero, names, List.getElem?_map, List.getElem?_eq_getElem h5] at h3
    injection h3 with h3
    have h6 : t.ks[k].nd.name = a := h3
    rw [h6]; exact h4
  · cases h
theorem names_set {ts : List (Tr Nd)} {k : Nat} {y u : Tr Nd} (h : ts[k]? = some u) (hn : y.nd.name = u.nd.name) : names (ts.set k y) = names ts := by
  unfold names
  rw [List.map_set]
  apply List.ext_getElem?
  intro i
  rw [List.getElem?_set]
  split
  · rename_i hi
    subst hi
    split
    · rw [List.getElem?_map, h, Option.map_some, hn]
    · rename_i hl
      simp at hl
      rw [List.getElem?_eq_none hl] at h; cases h
  · rfl
/-- Is neither the beginning of the other one? -/
def apartP : List St → List St → Bool
  | s :: p, s' :: q => if s = s' then apartP p q else true
  | _, _ => false
/-! What is set is a value. -/
theorem rightKs_set {kind : Int} {y : Tr Nd} (hy : rightT y = true) : ∀ (ts : List (Tr Nd)) (b : Bool) (a : List UInt8) (k : Nat) (u : Tr Nd), ts[k]? = some u → y.nd.name = u.nd.name → rightKs kind b a ts = true → rightKs kind b a (ts.set k y) = true
  | [], _, _, k, u, h, _, _ => by simp at h
  | t :: ts, b, a, 0, u, h, hn, hr => by
    simp at h; subst h
    rw [rightKs_cons, Bool.and_eq_true, Bool.and_eq_true] at hr
    rw [List.set_cons_zero, rightKs_cons, hn, hr.1.1, hy, hr.2]; rfl
  | t :: ts, b, a, k + 1, u, h, hn, hr => by
    rw [rightKs_cons, Bool.and_eq_true, Bool.and_eq_true] at hr
    rw [List.set_cons_succ, rightKs_cons, hr.1.1, hr.1.2, rightKs_set hy ts true t.nd.name k u (by simpa using h) hn hr.2]; rfl
/-! Where it stands in the row. -/
end Pw
end Go.Proofs.YtdgcdemihalefaaGreatDoor

/-
  Plain words: what eval's paths do with trees: a step, a path, what is left without what stands there. No program stands here.
-/
namespace Go.Proofs.YtdgcdemihalefaaGreatDoor
namespace Ev
open Go.RowKit Np Rw Vp Pw

def nullT : Tr Nd := .mk zeroN []
theorem nullT_val : Val nullT := ⟨okT_mk.2 ⟨rfl, by simp⟩, by decide, rfl⟩
/-- A value with other parts. -/
def withK (t : Tr Nd) (ks : List (Tr Nd)) : Tr Nd := .mk { t.nd with many := ks.length } ks
theorem withK_kind (t : Tr Nd) (ks : List (Tr Nd)) : (withK t ks).nd.kind = t.nd.kind := rfl
theorem withK_ks (t : Tr Nd) (ks : List (Tr Nd)) : (withK t ks).ks = ks := rfl
theorem withK_withK (t : Tr Nd) (ks ls : List (Tr Nd)) : withK (withK t ks) ls = withK t ls := rfl
/-- What is given: a value, or an error. -/
inductive Rz where
  | ok (t : Tr Nd)
  | bad (e : Int)
def ofO : Option (Tr Nd) → Rz
  | none => .bad 5
  | some t => .ok t
/-- May a step be asked of it? -/
def asks (s : St) (t : Tr Nd) : Bool := decide (t.nd.kind = 0 ∨ t.nd.kind = stKind s)
/-- What a step gives, if it may be asked. -/
def stepE (s : St) (t : Tr Nd) : Option (Tr Nd) :=
  if asks s t = true then some (match kid s t with | none => nullT | some k => nmd [] (t.ks.getD k nullT)) else none
/-- What a path gives. -/
def alongE : List St → Tr Nd → Option (Tr Nd)
  | [], t => some t
  | s :: p, t => match stepE s t with
    | none => none
    | some u => alongE p u
/-- What is left without what stands at a path. -/
def cutE : List St → Tr Nd → Option (Tr Nd)
  | [], _ => some nullT
  | s :: p, t => if asks s t = true then
      match kid s t with
      | none => some t
      | some k => if p = [] then some (withK t (t.ks.eraseIdx k)) else
        match cutE p (t.ks.getD k nullT) with
        | none => none
        | some y => some (withK t (t.ks.set k y))
    else none

theorem kid_at {s : St} {t : Tr Nd} {k : Nat} (h : kid s t = some k) : ∃ u, t.ks[k]? = some u ∧ t.ks.getD k nullT = u ∧ u ∈ t.ks ∧ lead s k u.nd.name = true ∧ k < t.ks.length ∧ t.nd.kind = stKind s := by
  obtain ⟨h1, h2, u, h3, h4⟩ := kid_lt h
  exact ⟨u, h3, by simp [List.getD, h3], List.mem_of_getElem? h3, h4, h1, h2⟩
theorem kid_null {s : St} {t : Tr Nd} (h : t.nd.kind = 0) : kid s t = none := by
  unfold kid
  rw [if_neg (by rw [h]; unfold stKind; split <;> decide)]
theorem step_nullT (s : St) : stepE s nullT = some nullT := by
  have h : kid s nullT = none := kid_null rfl
  unfold stepE
  rw [h, if_pos (by simp [asks, nullT])]
theorem along_nullT : ∀ p : List St, alongE p nullT = some nullT
  | [] => rfl
  | s :: p => by rw [alongE, step_nullT]; exact along_nullT p

/-- Right, whatever its name. -/
def Rgt (t : Tr Nd) : Prop := okT many t ∧ rightT t = true
theorem Rgt.val {t : Tr Nd} (h : Rgt t) (hn : t.nd.name = []) : Val t := ⟨h.1, h.2, hn⟩
theorem Rgt.clr {t : Tr Nd} (h : Rgt t) : Val (nmd [] t) := Val.clr h.1 h.2
theorem rgt_of {t : Tr Nd} (h : Val t) : Rgt t := ⟨h.ok, h.rt⟩
theorem Rgt.kid {t u : Tr Nd} (h : Rgt t) (hu : u ∈ t.ks) : Rgt u := val_kids h.clr u hu
theorem step_val {s : St} {t u : Tr Nd} (h : Rgt t) (he : stepE s t = some u) : Val u := by
  unfold stepE at he
  split at he
  · injection he with he
    subst he
    cases hk : Pw.kid s t with
    | none => exact nullT_val
    | some k =>
      obtain ⟨u, -, hg, hm, -⟩ := kid_at hk
      simp only [hg]
      exact (h.kid hm).clr
  · cases he
theorem along_val : ∀ (p : List St) {t u : Tr Nd}, Val t → alongE p t = some u → Val u
  | [], t, u, h, he => by simp [alongE] at he; subst he; exact h
  | s :: p, t, u, h, he => by
    rw [alongE] at he
    cases hs : stepE s t with
    | none => rw [hs] at he; cases he
    | some x => rw [hs] at he; exact along_val p (step_val (rgt_of h) hs) he
theorem along_nmd (s : St) (p : List St) (nm : List UInt8) (t : Tr Nd) : alongE (s :: p) (nmd nm t) = alongE (s :: p) t := rfl
theorem cutE_cons (s : St) (p : List St) (t : Tr Nd) : cutE (s :: p) t = if asks s t = true then
      match Pw.kid s t with
      | none => some t
      | some k => if p = [] then some (withK t (t.ks.eraseIdx k)) else
        match cutE p (t.ks.getD k nullT) with
        | none => none
        | some y => some (withK t (t.ks.set k y))
    else none := by rw [cutE]
theorem cut_name {s : St} {p : List St} {t u : Tr Nd} (h : cutE (s :: p) t = some u) : u.nd.name = t.nd.name := by
  rw [cutE_cons] at h
  repeat' split at h
  all_goals first | (injection h with h; subst h; rfl) | cases h

theorem erase_mem {ts : List (Tr Nd)} {k : Nat} {x : Tr Nd} (h : x ∈ ts.eraseIdx k) : x ∈ ts := List.mem_of_mem_eraseIdx h
theorem plainN_many_any {n : Nd} {m : Nat} (h : plainN n = true) (h56 : n.kind = 5 ∨ n.kind = 6) : plainN { n with many := (m : Int) } = true := by
  unfold plainN at h ⊢
  rcases h56 with h5 | h5 <;> simp [h5] at h ⊢ <;> simp [h]
theorem rightKs_set' {kind : Int} {ts : List (Tr Nd)} {k : Nat} {y u : Tr Nd} (h : ts[k]? = some u) (hn : y.nd.name = u.nd.name) (hy : rightT y = true) (hr : rightKs kind false [] ts = true) : rightKs kind false [] (ts.set k y) = true :=
  rightKs_set hy ts false [] k u h hn hr
theorem named_erase {ts : List (Tr Nd)} (k : Nat) (h : Named ts) : Named (ts.eraseIdx k) :=
  ⟨h.1.sublist (List.eraseIdx_sublist ts k), fun t ht => h.2 t (erase_mem ht)⟩
/-- What is left is right. -/
theorem cut_rgt : ∀ (p : List St) {t u : Tr Nd}, Rgt t → cutE p t = some u → Rgt u
  | [], t, u, h, he => by simp [cutE] at he; subst he; exact rgt_of nullT_val
  | s :: p, t, u, h, he => by
    rw [cutE_cons] at he
    split at he
    · rename_i ha
      cases hk : Pw.kid s t with
      | none => rw [hk] at he; injection he with he; subst he; exact h
      | some k =>
        rw [hk] at he
        obtain ⟨v, hv, hg, hm, -, -, hkd⟩ := kid_at hk
        have h56 : t.nd.kind = 5 ∨ t.nd.kind = 6 := by rw [hkd]; unfold stKind; split <;> simp
        have hr := h.2
        rw [rightT_eq, Bool.and_eq_true] at hr
        have hall := okTs_all.1 (okT_eq.1 h.1).2
        simp only at he
        split at he
        · injection he with he
          subst he
          refine ⟨okT_mk.2 ⟨rfl, okTs_all.2 fun x hx => hall x (erase_mem hx)⟩, ?_⟩
          rw [withK, rightT_mk, plainN_many_any hr.1 h56, Bool.true_and]
          show rightKs t.nd.kind false [] _ = true
          rcases h56 with h5 | h6
          · have h1 := hr.2
            rw [h5, rightKs_arr, Bool.and_eq_true, List.all_eq_true] at h1
            have h2 := five_rising _ h1.1
            rw [h5, rightKs_arr, rising_five _ (fun x hx => h2 x (erase_mem hx)), Bool.true_and, List.all_eq_true]
            exact fun x hx => h1.2 x (erase_mem hx)
          · have h1 := hr.2
            rw [h6, rightKs_obj, Bool.and_eq_true, List.all_eq_true] at h1
            have h2 := named_erase k ((rising_named _).1 h1.1)
            rw [h6, rightKs_obj, (rising_named _).2 h2, Bool.true_and, List.all_eq_true]
            exact fun x hx => h1.2 x (erase_mem hx)
        · rw [hg] at he
          cases hc : cutE p v with
          | none => rw [hc] at he; cases he
          | some y =>
            rw [hc] at he
            injection he with he
            subst he
            rename_i hp
            obtain ⟨i1, i2⟩ := cut_rgt p (h.kid hm) hc
            have hn : y.nd.name = v.nd.name := by
              cases p with
              | nil => exact absurd rfl hp
              | cons s' p => exact cut_name hc
            refine ⟨okT_mk.2 ⟨rfl, okTs_all.2 fun x hx => ?_⟩, ?_⟩
            · rcases List.mem_or_eq_of_mem_set hx with hx | rfl
              · exact hall x hx
              · exact i1
            · rw [withK, rightT_mk, plainN_many_any hr.1 h56, Bool.true_and]
              exact rightKs_set' hv hn i2 hr.2
    · cases he
theorem cut_val {p : List St} {t u : Tr Nd} (h : Val t) (he : cutE p t = some u) : Val u := by
  have h1 := cut_rgt p (rgt_of h) he
  refine h1.val ?_
  cases p with
  | nil => simp [cutE] at he; subst he; rfl
  | cons s p => rw [cut_name he]; exact h.nm

/-! Fields. -/
def fields (p : List St) : Bool := p.all fun s => !s.part
theorem seekN_none (s : St) : ∀ (l : List (List UInt8)) (k : Nat), seekN s l k = none ↔ ∀ i a, l[i]? = some a → lead s (k + i) a = false
  | [], k => by simp [seekN]
  | a :: l, k => by
    rw [seekN]
    constructor
    · intro h i b hb
      split at h
      · cases h
      · rename_i hl
        cases i with
        | zero => simp at hb; subst hb; simpa using hl
        | succ i =>
          have := (seekN_none s l (k + 1)).1 h i b (by simpa using hb)
          rwa [show k + (i + 1) = k + 1 + i by omega]
    · intro h
      have h0 := h 0 a rfl
      simp only [Nat.add_zero] at h0
      rw [if_neg (by simp [h0])]
      exact (seekN_none s l (k + 1)).2 fun i b hb => by
        have := h (i + 1) b (by simpa using hb)
        rwa [show k + 1 + i = k + (i + 1) by omega]
theorem lead_field {s : St} (h : s.part = false) (k : Nat) (nm : List UInt8) : lead s k nm = decide (nm = s.name) := by unfold lead; simp [h]
/-- The part that a field's step is to, if it is of an object. -/
def fld (nm : List UInt8) (ts : List (Tr Nd)) : Option (Tr Nd) := ts.find? fun u => decide (u.nd.name = nm)
theorem seek_fld {s : St} (hs : s.part = false) : ∀ (ts : List (Tr Nd)) (k : Nat), (seekN s (names ts) k).bind (fun j => ts[j - k]?) = fld s.name ts
  | [], k => by simp [seekN, names, fld]
  | t :: ts, k => by
    rw [names, List.map_cons, seekN, lead_field hs, fld, List.find?_cons]
    by_cases h : t.nd.name = s.name
    · simp [h]
    · simp only [h, decide_false, Bool.false_eq_true, if_false]
      have ih := seek_fld hs ts (k + 1)
      rw [fld] at ih
      rw [← ih]
      show (seekN s (names ts) (k + 1)).bind _ = _
      cases hk : seekN s (names ts) (k + 1) with
      | none => rfl
      | some j =>
        obtain ⟨h1, -⟩ := seekN_ge s _ _ _ hk
        simp only [Option.bind_some]
        rw [show j - k = (j - (k + 1)) + 1 by omega, List.getElem?_cons_succ]
theorem step_field {s : St} {t : Tr Nd} (hs : s.part = false) (h6 : t.nd.kind = 6) : stepE s t = some (match fld s.name t.ks with | none => nullT | some u => nmd [] u) := by
  have hk : kid s t = seekN s (names t.ks) 0 := by unfold kid; rw [if_pos (by rw [h6]; simp [stKind, hs])]
  have hf := seek_fld hs t.ks 0
  unfold stepE
  rw [if_pos (by simp [asks, h6, stKind, hs]), hk]
  cases hj : seekN s (names t.ks) 0 with
  | none => rw [hj] at hf; rw [← hf]; rfl
  | some j =>
    rw [hj] at hf
    obtain ⟨-, h2, -⟩ := seekN_ge s _ _ _ hj
    have hl : j < t.ks.length := by simpa [names] using h2
    simp only [Option.bind_some, Nat.sub_zero] at hf
    rw [← hf]
    simp [List.getD, hl]
theorem step_not {s : St} {t : Tr Nd} (h : asks s t = false) : stepE s t = none := by unfold stepE; rw [h]; simp
theorem fld_set {ts : List (Tr Nd)} {k : Nat} {u y : Tr Nd} (hu : ts[k]? = some u) (hn : y.nd.name = u.nd.name) {nm : List UInt8} (h : nm ≠ u.nd.name) : fld nm (ts.set k y) = fld nm ts := by
  induction ts generalizing k with
  | nil => simp at hu
  | cons t ts ih =>
    cases k with
    | zero =>
      simp at hu; subst hu
      rw [List.set_cons_zero, fld, fld, List.find?_cons, List.find?_cons, hn]
      simp [Ne.symm h]
    | succ k =>
      rw [List.set_cons_succ, fld, fld, List.find?_cons, List.find?_cons]
      have := ih (k := k) (by simpa using hu)
      rw [fld, fld] at this
      rw [this]
theorem fld_erase {ts : List (Tr Nd)} {k : Nat} {u : Tr Nd} (hu : ts[k]? = some u) {nm : List UInt8} (h : nm ≠ u.nd.name) : fld nm (ts.eraseIdx k) = fld nm ts := by
  induction ts generalizing k with
  | nil => simp at hu
  | cons t ts ih =>
    cases k with
    | zero =>
      simp at hu; subst hu
      rw [List.eraseIdx_cons_zero, fld, fld, List.find?_cons]
      simp [Ne.symm h]
    | succ k =>
      rw [List.eraseIdx_cons_succ, fld, fld, List.find?_cons, List.find?_cons]
      have := ih (k := k) (by simpa using hu)
      rw [fld, fld] at this
      rw [this]
theorem fld_gone {ts : List (Tr Nd)} {k : Nat} {u : Tr Nd} (hr : Rise ts) (hu : ts[k]? = some u) : fld u.nd.name (ts.eraseIdx k) = none := by
  rw [fld, List.find?_eq_none]
  intro x hx
  simp only [decide_eq_true_eq]
  intro he
  induction ts generalizing k with
  | nil => simp at hu
  | cons t ts ih =>
    obtain ⟨h1, h2⟩ := List.pairwise_cons.1 hr
    cases k with
    | zero =>
      simp at hu; subst hu
      rw [List.eraseIdx_cons_zero] at hx
      exact List.lt_irrefl _ (he ▸ h1 x hx)
    | succ k =>
      rw [List.eraseIdx_cons_succ] at hx
      have hu' : ts[k]? = some u := by simpa using hu
      rcases List.mem_cons.1 hx with rfl | hx
      · exact List.lt_irrefl _ (he ▸ h1 u (List.mem_of_getElem? hu'))
      · exact ih h2 hu' hx
theorem rgt_named {t : Tr Nd} (h : Rgt t) (h6 : t.nd.kind = 6) : Named t.ks := h.clr.named h6
theorem kid_fld {s : St} {t : Tr Nd} (hs : s.part = false) (h6 : t.nd.kind = 6) : kid s t = none ↔ fld s.name t.ks = none := by
  have hk : kid s t = seekN s (names t.ks) 0 := by unfold kid; rw [if_pos (by rw [h6]; simp [stKind, hs])]
  have hf := seek_fld hs t.ks 0
  rw [hk]
  constructor
  · intro h; rw [h] at hf; rw [← hf]; rfl
  · intro h
    cases hj : seekN s (names t.ks) 0 with
    | none => rfl
    | some j =>
      obtain ⟨-, h2, -⟩ := seekN_ge s _ _ _ hj
      have hl : j < t.ks.length := by simpa [names] using h2
      rw [hj, h] at hf
      simp [hl] at hf
theorem kid_withK_set {t u y : Tr Nd} {k : Nat} (h : t.ks[k]? = some u) (hn : y.nd.name = u.nd.name) (s' : St) : kid s' (withK t (t.ks.set k y)) = kid s' t := by
  show (if t.nd.kind = stKind s' then seekN s' (names (t.ks.set k y)) 0 else none) = (if t.nd.kind = stKind s' then seekN s' (names t.ks) 0 else none)
  rw [names_set h hn]
theorem asks_withK (s : St) (t : Tr Nd) (ks : List (Tr Nd)) : asks s (withK t ks) = asks s t := rfl
theorem getD_set {t y d : Tr Nd} {k : Nat} (h : k < t.ks.length) : (t.ks.set k y).getD k d = y := by simp [List.getD, h]
/-- What is deleted by fields is null, and deleted again it is as it was. -/
theorem del_gone : ∀ (p : List St) {t x : Tr Nd}, p ≠ [] → fields p = true → Rgt t → cutE p t = some x → alongE p x = some nullT ∧ cutE p x = some x
  | [], _, _, h, _, _, _ => absurd rfl h
  | s :: p, t, x, _, hf, hr, he => by
    have hs : s.part = false := by simp [fields] at hf; exact hf.1
    have hf2 : fields p = true := by simp [fields] at hf ⊢; exact hf.2
    rw [cutE_cons] at he
    split at he
    · rename_i ha
      cases hk : Pw.kid s t with
      | none =>
        rw [hk] at he; injection he with he; subst he
        have h1 : stepE s t = some nullT := by unfold stepE; rw [hk, if_pos ha]
        exact ⟨by rw [alongE, h1]; exact along_nullT p, by rw [cutE_cons, if_pos ha, hk]⟩
      | some k =>
        rw [hk] at he
        obtain ⟨v, hv, hg, hm, hl, hkl, hkd⟩ := kid_at hk
        have h6 : t.nd.kind = 6 := by rw [hkd]; simp [stKind, hs]
        rw [lead_field hs, decide_eq_true_eq] at hl
        simp only at he
        split at he
        · rename_i hp
          subst hp
          injection he with he
          subst he
          have hgone : fld s.name (t.ks.eraseIdx k) = none := hl ▸ fld_gone (rgt_named hr h6).1 hv
          have hkn : Pw.kid s (withK t (t.ks.eraseIdx k)) = none := (kid_fld (t := withK t (t.ks.eraseIdx k)) hs h6).2 hgone
          refine ⟨?_, ?_⟩
          · rw [alongE, step_field (t := withK t (t.ks.eraseIdx k)) hs h6, withK_ks, hgone]; rfl
          · rw [cutE_cons, asks_withK, if_pos ha, hkn]
        · rename_i hp
          rw [hg] at he
          cases hc : cutE p v with
          | none => rw [hc] at he; cases he
          | some y =>
            rw [hc] at he
            injection he with he
            subst he
            obtain ⟨i1, i2⟩ := del_gone p hp hf2 (hr.kid hm) hc
            have hn : y.nd.name = v.nd.name := by
              cases p with
              | nil => exact absurd rfl hp
              | cons s' p => exact cut_name hc
            have hkk := kid_withK_set hv hn s
            rw [hk] at hkk
            refine ⟨?_, ?_⟩
            · have h1 : stepE s (withK t (t.ks.set k y)) = some (nmd [] y) := by
                unfold stepE
                rw [asks_withK, if_pos ha, hkk]
                simp only [withK_ks, getD_set hkl]
              rw [alongE, h1]
              cases p with
              | nil => exact absurd rfl hp
              | cons s' p => simp only; rw [along_nmd]; exact i1
            · rw [cutE_cons, asks_withK, if_pos ha, hkk]
              simp only [withK_ks, getD_set hkl]
              rw [if_neg hp, i2]
              simp [withK_withK]
    · cases he
/-- What stands at a path apart stays. -/
theorem del_apart : ∀ (p q : List St) {t x : Tr Nd}, fields p = true → p.all rightS = true → q.all rightS = true → apartP p q = true → Rgt t → cutE p t = some x → alongE q x = alongE q t
  | [], q, _, _, _, _, _, h, _, _ => by simp [apartP] at h
  | s :: p, [], _, _, _, _, _, h, _, _ => by simp [apartP] at h
  | s :: p, s' :: q, t, x, hf, hp, hq, hap, hr, he => by
    have hs : s.part = false := by simp [fields] at hf; exact hf.1
    have hf2 : fields p = true := by simp [fields] at hf ⊢; exact hf.2
    rw [List.all_cons, Bool.and_eq_true] at hp hq
    rw [cutE_cons] at he
    split at he
    · rename_i ha
      cases hk : Pw.kid s t with
      | none => rw [hk] at he; injection he with he; subst he; rfl
      | some k =>
        rw [hk] at he
        obtain ⟨v, hv, hg, hm, hl, hkl, hkd⟩ := kid_at hk
        have h6 : t.nd.kind = 6 := by rw [hkd]; simp [stKind, hs]
        rw [lead_field hs, decide_eq_true_eq] at hl
        have hother : s ≠ s' → ∀ ks, (∀ nm, nm ≠ v.nd.name → fld nm ks = fld nm t.ks) → stepE s' (withK t ks) = stepE s' t := by
          intro hne ks hks
          by_cases hs' : s'.part = false
          · rw [step_field hs' h6, step_field hs' (by rw [withK_kind]; exact h6), withK_ks, hks]
            intro e
            apply hne
            obtain ⟨p1, n1, i1⟩ := s
            obtain ⟨p2, n2, i2⟩ := s'
            have r1 := hp.1
            have r2 := hq.1
            simp only at hs hs' hl e
            subst hs hs'
            simp [rightS] at r1 r2
            rw [r1.1, r2.1, e, hl]
          · have ha2 : asks s' t = false := by
              simp at hs'
              simp [asks, h6, stKind, hs']
            rw [step_not ha2, step_not (by rw [asks_withK]; exact ha2)]
        simp only at he
        split at he
        · rename_i hp0
          subst hp0
          injection he with he
          subst he
          have hne : s ≠ s' := by
            intro e
            rw [apartP, if_pos e] at hap
            simp [apartP] at hap
          rw [alongE, alongE, hother hne _ (fun nm h => fld_erase hv h)]
        · rename_i hp0
          rw [hg] at he
          cases hc : cutE p v with
          | none => rw [hc] at he; cases he
          | some y =>
            rw [hc] at he
            injection he with he
            subst he
            have hn : y.nd.name = v.nd.name := by
              cases p with
              | nil => exact absurd rfl hp0
              | cons s' p => exact cut_name hc
            by_cases e : s = s'
            · subst e
              rw [apartP, if_pos rfl] at hap
              have ih := del_apart p q hf2 hp.2 hq.2 hap (hr.kid hm) hc
              have hkk := kid_withK_set hv hn s
              rw [hk] at hkk
              have h1 : stepE s (withK t (t.ks.set k y)) = some (nmd [] y) := by
                unfold stepE
                rw [asks_withK, if_pos ha, hkk]
                simp only [withK_ks, getD_set hkl]
              have h2 : stepE s t = some (nmd [] v) := by
                unfold stepE
                rw [if_pos ha, hk]
                simp only [hg]
              rw [alongE, alongE, h1, h2]
              simp only
              cases q with
              | nil => cases p <;> simp [apartP] at hap
              | cons s2 q => rw [along_nmd, along_nmd]; exact ih
            · rw [alongE, alongE, hother e _ (fun nm h => fld_set hv hn h)]
    · cases he
end Ev
end Go.Proofs.YtdgcdemihalefaaGreatDoor

/-
  Words for memory: a value as eval keeps it: a pointer to its node and its parts.
-/
namespace Go.Proofs.YtdgcdemihalefaaGreatDoor
open Go.RowKit Np Rw Vp Pw Ev

/-- A slice that reads as these values, in a block of the set. -/
def RowS (S : Nat → Prop) (w : World) (v : Value) (vs : List Value) : Prop :=
  ∃ (A : Option Addr) (c : Nat), v = .slice A vs.length c ∧ vs.length ≤ c ∧ c ≤ maxLen ∧ (A = none → c = 0) ∧ (0 < vs.length → ∃ g o : Nat, A = some ⟨g, o, none⟩ ∧ S g ∧ g < w.heap.size ∧ ∀ k x, vs[k]? = some x → w.cell? ⟨g, o + k, none⟩ = some x)
theorem RowS.same {S : Nat → Prop} {w w' : World} {v : Value} {vs : List Value} (h : RowS S w v vs) (hs : w.heap.size ≤ w'.heap.size) (hb : ∀ b, S b → b < w.heap.size → w'.heap[b]? = w.heap[b]?) : RowS S w' v vs := by
  obtain ⟨A, c, hv, h1, h2, h3, H⟩ := h
  refine ⟨A, c, hv, h1, h2, h3, fun h0 => ?_⟩
  obtain ⟨g, o, hA, hS, hg, hx⟩ := H h0
  exact ⟨g, o, hA, hS, Nat.lt_of_lt_of_le hg hs, fun k x hk => (World.cell?_of_block (w := w) (a := ⟨g, o + k, none⟩) (hb g hS hg)).trans (hx k x hk)⟩
theorem RowS.mono {S S' : Nat → Prop} {w : World} {v : Value} {vs : List Value} (h : RowS S w v vs) (hs : ∀ b, b < w.heap.size → S b → S' b) : RowS S' w v vs := by
  obtain ⟨A, c, hv, h1, h2, h3, H⟩ := h
  refine ⟨A, c, hv, h1, h2, h3, fun h0 => ?_⟩
  obtain ⟨g, o, hA, hS, hg, hx⟩ := H h0
  exact ⟨g, o, hA, hs g hg hS, hg, hx⟩
theorem RowS.row {S : Nat → Prop} {w : World} {v : Value} {vs : List Value} (h : RowS S w v vs) : Row (fun x => [x]) 1 w v vs := by
  obtain ⟨A, c, hv, h1, h2, h3, H⟩ := h
  refine ⟨A, c, hv, h1, h2, h3, fun h0 => ?_⟩
  obtain ⟨g, o, hA, hS, hg, hx⟩ := H h0
  refine ⟨g, o, hA, hg, fun k x hk j u hu => ?_⟩
  have hj : j = 0 := by
    have := (List.getElem?_eq_some_iff.1 hu).1
    simp at this; omega
  subst hj
  simp at hu; subst hu
  have := hx k x hk
  rwa [Nat.mul_one, Nat.add_zero]

mutual
/-- A pointer to a tree: all blocks that it lies in are of the set. -/
def TrS (S : Nat → Prop) (w : World) : Tr Nd → Value → Prop
  | .mk n ks, v => ∃ (g : Nat) (m : Int) (sl : Value) (vs : List Value), v = .pointer (some ⟨g, 0, none⟩) ∧ S g ∧ g < w.heap.size ∧ Nd6 w g 0 { n with many := m } ∧ w.cell? ⟨g, 6, none⟩ = some sl ∧ RowS S w sl vs ∧ TrsS S w ks vs
/-- Pointers to trees. -/
def TrsS (S : Nat → Prop) (w : World) : List (Tr Nd) → List Value → Prop
  | [], [] => True
  | k :: ks, v :: vs => TrS S w k v ∧ TrsS S w ks vs
  | [], _ :: _ => False
  | _ :: _, [] => False
end
theorem TrS_mk {S : Nat → Prop} {w : World} {n : Nd} {ks : List (Tr Nd)} {v : Value} : TrS S w (.mk n ks) v ↔ ∃ (g : Nat) (m : Int) (sl : Value) (vs : List Value), v = .pointer (some ⟨g, 0, none⟩) ∧ S g ∧ g < w.heap.size ∧ Nd6 w g 0 { n with many := m } ∧ w.cell? ⟨g, 6, none⟩ = some sl ∧ RowS S w sl vs ∧ TrsS S w ks vs := by rw [TrS]
theorem TrsS_nil {S : Nat → Prop} {w : World} : TrsS S w [] [] := by rw [TrsS]; trivial
theorem TrsS_cons {S : Nat → Prop} {w : World} {k : Tr Nd} {ks : List (Tr Nd)} {v : Value} {vs : List Value} : TrsS S w (k :: ks) (v :: vs) ↔ TrS S w k v ∧ TrsS S w ks vs := by rw [TrsS]
theorem TrsS_len {S : Nat → Prop} {w : World} : ∀ {ks : List (Tr Nd)} {vs : List Value}, TrsS S w ks vs → vs.length = ks.length
  | [], [], _ => rfl
  | k :: ks, v :: vs, h => by rw [List.length_cons, List.length_cons, TrsS_len (TrsS_cons.1 h).2]
  | [], _ :: _, h => by rw [TrsS] at h; exact h.elim
  | _ :: _, [], h => by rw [TrsS] at h; exact h.elim
theorem TrsS_at {S : Nat → Prop} {w : World} : ∀ {ks : List (Tr Nd)} {vs : List Value}, TrsS S w ks vs → ∀ {i : Nat} {k : Tr Nd}, ks[i]? = some k → ∃ v, vs[i]? = some v ∧ TrS S w k v
  | k :: ks, v :: vs, h, 0, x, hx => by simp at hx; subst hx; exact ⟨v, rfl, (TrsS_cons.1 h).1⟩
  | k :: ks, v :: vs, h, i + 1, x, hx => by
    obtain ⟨u, h1, h2⟩ := TrsS_at (TrsS_cons.1 h).2 (i := i) (k := x) (by simpa using hx)
    exact ⟨u, by simpa using h1, h2⟩
  | [], _, h, i, x, hx => by simp at hx
  | _ :: _, [], h, _, _, _ => by rw [TrsS] at h; exact h.elim
theorem TrsS_of {S : Nat → Prop} {w : World} : ∀ {ks : List (Tr Nd)} {vs : List Value}, vs.length = ks.length → (∀ (i : Nat) (k : Tr Nd) (v : Value), ks[i]? = some k → vs[i]? = some v → TrS S w k v) → TrsS S w ks vs
  | [], [], _, _ => TrsS_nil
  | k :: ks, v :: vs, hl, h => TrsS_cons.2 ⟨h 0 k v rfl rfl, TrsS_of (by simpa using hl) (fun i x y hx hy => h (i + 1) x y (by simpa using hx) (by simpa using hy))⟩
  | [], _ :: _, hl, _ => by simp at hl
  | _ :: _, [], hl, _ => by simp at hl
theorem TrsS_append {S : Nat → Prop} {w : World} {ks ls : List (Tr Nd)} {vs us : List Value} (h1 : TrsS S w ks vs) (h2 : TrsS S w ls us) : TrsS S w (ks ++ ls) (vs ++ us) := by
  have e1 := TrsS_len h1
  refine TrsS_of (by simp [e1, TrsS_len h2]) (fun i k v hk hv => ?_)
  rcases Nat.lt_or_ge i ks.length with h | h
  · rw [List.getElem?_append_left h] at hk
    rw [List.getElem?_append_left (by omega)] at hv
    obtain ⟨u, hu, h3⟩ := TrsS_at h1 hk
    rw [hv] at hu; injection hu with hu; subst hu; exact h3
  · rw [List.getElem?_append_right h] at hk
    rw [List.getElem?_append_right (by omega), e1] at hv
    obtain ⟨u, hu, h3⟩ := TrsS_at h2 hk
    rw [hv] at hu; injection hu with hu; subst hu; exact h3
theorem TrsS_sub {S : Nat → Prop} {w : World} {ks ls : List (Tr Nd)} {vs us : List Value} (h : TrsS S w ks vs) (f : Nat → Nat) (hl : us.length = ls.length) (hk : ∀ i, i < ls.length → ls[i]? = ks[f i]?) (hv : ∀ i, i < us.length → us[i]? = vs[f i]?) : TrsS S w ls us := by
  refine TrsS_of hl (fun i k v h1 h2 => ?_)
  have hi := (List.getElem?_eq_some_iff.1 h1).1
  rw [hk i hi] at h1
  rw [hv i (by omega)] at h2
  obtain ⟨u, hu, h3⟩ := TrsS_at h h1
  rw [h2] at hu; injection hu with hu; subst hu; exact h3
theorem TrsS_take {S : Nat → Prop} {w : World} {ks : List (Tr Nd)} {vs : List Value} (h : TrsS S w ks vs) (n : Nat) : TrsS S w (ks.take n) (vs.take n) :=
  TrsS_sub h id (by simp [TrsS_len h]) (fun i hi => by simp at hi; simp [hi]) (fun i hi => by simp at hi; simp [hi])
theorem TrsS_drop {S : Nat → Prop} {w : World} {ks : List (Tr Nd)} {vs : List Value} (h : TrsS S w ks vs) (n : Nat) : TrsS S w (ks.drop n) (vs.drop n) :=
  TrsS_sub h (n + ·) (by simp [TrsS_len h]) (fun i _ => by simp) (fun i _ => by simp)

mutual
theorem TrS.same {S : Nat → Prop} {w w' : World} (hs : w.heap.size ≤ w'.heap.size) (hb : ∀ b, S b → b < w.heap.size → w'.heap[b]? = w.heap[b]?) : ∀ {t : Tr Nd} {v : Value}, TrS S w t v → TrS S w' t v
  | .mk n ks, v, h => by
    obtain ⟨g, m, sl, vs, h1, h2, h3, h4, h5, h6, h7⟩ := TrS_mk.1 h
    have hc : ∀ o, w'.cell? ⟨g, o, none⟩ = w.cell? ⟨g, o, none⟩ := fun o => World.cell?_of_block (w := w) (a := ⟨g, o, none⟩) (hb g h2 h3)
    exact TrS_mk.2 ⟨g, m, sl, vs, h1, h2, Nat.lt_of_lt_of_le h3 hs, ⟨(hc _).trans h4.c0, (hc _).trans h4.c1, (hc _).trans h4.c2, (hc _).trans h4.c3, (hc _).trans h4.c4, (hc _).trans h4.c5⟩, (hc _).trans h5, h6.same hs hb, TrsS.same hs hb h7⟩
theorem TrsS.same {S : Nat → Prop} {w w' : World} (hs : w.heap.size ≤ w'.heap.size) (hb : ∀ b, S b → b < w.heap.size → w'.heap[b]? = w.heap[b]?) : ∀ {ks : List (Tr Nd)} {vs : List Value}, TrsS S w ks vs → TrsS S w' ks vs
  | [], [], _ => TrsS_nil
  | k :: ks, v :: vs, h => by
    obtain ⟨h1, h2⟩ := TrsS_cons.1 h
    exact TrsS_cons.2 ⟨h1.same hs hb, TrsS.same hs hb h2⟩
  | [], _ :: _, h => by rw [TrsS] at h; exact h.elim
  | _ :: _, [], h => by rw [TrsS] at h; exact h.elim
end
mutual
theorem TrS.mono {S S' : Nat → Prop} {w : World} (hs : ∀ b, b < w.heap.size → S b → S' b) : ∀ {t : Tr Nd} {v : Value}, TrS S w t v → TrS S' w t v
  | .mk n ks, v, h => by
    obtain ⟨g, m, sl, vs, h1, h2, h3, h4, h5, h6, h7⟩ := TrS_mk.1 h
    exact TrS_mk.2 ⟨g, m, sl, vs, h1, hs g h3 h2, h3, h4, h5, h6.mono hs, TrsS.mono hs h7⟩
theorem TrsS.mono {S S' : Nat → Prop} {w : World} (hs : ∀ b, b < w.heap.size → S b → S' b) : ∀ {ks : List (Tr Nd)} {vs : List Value}, TrsS S w ks vs → TrsS S' w ks vs
  | [], [], _ => TrsS_nil
  | k :: ks, v :: vs, h => by
    obtain ⟨h1, h2⟩ := TrsS_cons.1 h
    exact TrsS_cons.2 ⟨h1.mono hs, TrsS.mono hs h2⟩
  | [], _ :: _, h => by rw [TrsS] at h; exact h.elim
  | _ :: _, [], h => by rw [TrsS] at h; exact h.elim
end
/-- What lies below stays: so does a tree, wherever it lies. -/
theorem TrS.below {S : Nat → Prop} {w w' : World} {t : Tr Nd} {v : Value} (h : TrS S w t v) (hb : Below w.heap.size w w') : TrS S w' t v := h.same hb.size (fun b _ hl => hb.block b hl)
theorem TrsS.below {S : Nat → Prop} {w w' : World} {ks : List (Tr Nd)} {vs : List Value} (h : TrsS S w ks vs) (hb : Below w.heap.size w w') : TrsS S w' ks vs := h.same hb.size (fun b _ hl => hb.block b hl)
theorem TrS.opened {S : Nat → Prop} {w : World} {t : Tr Nd} {v : Value} (h : TrS S w t v) : ∃ (g : Nat) (m : Int) (A : Option Addr) (c : Nat) (vs : List Value), v = .pointer (some ⟨g, 0, none⟩) ∧ S g ∧ g < w.heap.size ∧ Nd6 w g 0 { t.nd with many := m } ∧ w.cell? ⟨g, 6, none⟩ = some (.slice A t.ks.length c) ∧ RowS S w (.slice A t.ks.length c) vs ∧ TrsS S w t.ks vs := by
  obtain ⟨n, ks⟩ := t
  obtain ⟨g, m, sl, vs, h1, h2, h3, h4, h5, h6, h7⟩ := TrS_mk.1 h
  have hl := TrsS_len h7
  obtain ⟨A, c, hv, h8⟩ := h6
  rw [hl] at hv
  subst hv
  exact ⟨g, m, A, c, vs, h1, h2, h3, h4, h5, ⟨A, c, by rw [hl]; rfl, h8⟩, h7⟩
/-- Anywhere. -/
abbrev TrA (w : World) (t : Tr Nd) (v : Value) : Prop := TrS (fun _ => True) w t v
theorem TrS.any {S : Nat → Prop} {w : World} {t : Tr Nd} {v : Value} (h : TrS S w t v) : TrA w t v := h.mono (fun _ _ _ => trivial)
/-- A new tree, of what lies there. -/
abbrev treeO (n : Nd) (m : Int) (sl : Value) : Obj := .cells #[.int .i64 n.kind, .int .i64 m, .string ⟨n.name.toArray⟩, .string ⟨n.s.toArray⟩, .bool n.neg, .int .i64 n.e, sl] 157
theorem TrS.new {S : Nat → Prop} {w : World} {n : Nd} {m : Int} {sl : Value} {vs : List Value} {ks : List (Tr Nd)} {g : Nat} (hg : g = w.heap.size) (hr : RowS S w sl vs) (hk : TrsS S w ks vs) :
    TrS (fun b => S b ∨ w.heap.size ≤ b) (w.alloc (treeO n m sl)) (.mk n ks) (.pointer (some ⟨g, 0, none⟩)) := by
  subst hg
  have hb := (Below.refl w.heap.size w).alloc (Nat.le_refl _) (treeO n m sl)
  refine TrS_mk.2 ⟨w.heap.size, m, sl, vs, rfl, .inr (Nat.le_refl _), by simp, ⟨?_, ?_, ?_, ?_, ?_, ?_⟩, ?_, (hr.same hb.size (fun b _ hl => hb.block b hl)).mono (fun _ _ h => .inl h), (hk.below hb).mono (fun _ _ h => .inl h)⟩ <;> simp [World.cell?_alloc_new]
theorem RowS.nil {S : Nat → Prop} (w : World) : RowS S w (.slice none 0 0) [] := ⟨none, 0, rfl, Nat.le_refl _, Nat.zero_le _, fun _ => rfl, fun h => absurd h (by simp)⟩
theorem RowS.drew {S : Nat → Prop} {w : World} {v : Value} {vs : List Value} (h : RowS S w v vs) : RowS S w.drew v vs := h.same (w' := w.drew) (Nat.le_refl _) (fun _ _ _ => rfl)
theorem TrS.drew {S : Nat → Prop} {w : World} {t : Tr Nd} {v : Value} (h : TrS S w t v) : TrS S w.drew t v := h.same (w := w) (w' := w.drew) (Nat.le_refl _) (fun _ _ _ => rfl)
theorem TrS.drewN {S : Nat → Prop} {w : World} {t : Tr Nd} {v : Value} (h : TrS S w t v) (m : Nat) : TrS S (w.drewN m) t v := h.same (w := w) (w' := w.drewN m) (Nat.le_refl _) (fun _ _ _ => rfl)
theorem TrsS.drewN {S : Nat → Prop} {w : World} {ks : List (Tr Nd)} {vs : List Value} (h : TrsS S w ks vs) (m : Nat) : TrsS S (w.drewN m) ks vs := h.same (w := w) (w' := w.drewN m) (Nat.le_refl _) (fun _ _ _ => rfl)
end Go.Proofs.YtdgcdemihalefaaGreatDoor

/-
  What path's small functions answer: past.
-/
namespace Go.Proofs.YtdgcdemihalefaaGreatDoor
open Go.RowKit Np Rw Vp Pw

/-- A step's value, and its cells. -/
abbrev sta (s : St) : Value := .agg #[.bool s.part, .string ⟨s.name.toArray⟩, .int .i64 s.n]
def spc (s : St) : List Value := [.bool s.part, .string ⟨s.name.toArray⟩, .int .i64 s.n]
theorem spc_len (s : St) : (spc s).length = 3 := rfl
abbrev Sps (w : World) (v : Value) (l : List St) : Prop := Row spc 3 w v l
structure Sp3 (w : World) (g o : Nat) (s : St) : Prop where
  c0 : w.cell? ⟨g, o, none⟩ = some (.bool s.part)
  c1 : w.cell? ⟨g, o + 1, none⟩ = some (.string ⟨s.name.toArray⟩)
  c2 : w.cell? ⟨g, o + 2, none⟩ = some (.int .i64 s.n)
theorem CellsAt.sp {w : World} {g o : Nat} {s : St} (h : CellsAt w g o (spc s)) : Sp3 w g o s := ⟨h 0 _ rfl, h 1 _ rfl, h 2 _ rfl⟩
end Go.Proofs.YtdgcdemihalefaaGreatDoor

/-
  What eval's small functions on trees answer: null, is, holder, holdName, named, with, flat.
-/
namespace Go.Proofs.YtdgcdemihalefaaGreatDoor
open Go.RowKit Np Rw Vp Pw Ev

/-- Blocks of the set, and new ones. -/
def Or (S : Nat → Prop) (B : Nat) : Nat → Prop := fun b => S b ∨ B ≤ b
theorem Or.l {S : Nat → Prop} {B b : Nat} (h : S b) : Or S B b := .inl h
theorem Or.mono {S : Nat → Prop} {B B' : Nat} (h : B' ≤ B) {b : Nat} (hb : Or S B b) : Or S B' b := hb.imp id (Nat.le_trans h)
/-- A tree comes out: of what came in, and of new blocks. -/
def OutT (S : Nat → Prop) (w : World) (t : Tr Nd) (e : Ending) (w' : World) : Prop := ∃ g : Nat, e = .returned (.pointer (some ⟨g, 0, none⟩)) ∧ TrS (Or S w.heap.size) w' t (.pointer (some ⟨g, 0, none⟩)) ∧ Below w.heap.size w w'

theorem evNull_any (S : Nat → Prop) (w : World) : Calls Tryz.prog 81 #[] w (OutT S w nullT) := by
  have HB := Lib.hid ((Below.refl w.heap.size w).alloc (Nat.le_refl _) (treeO zeroN 0 (.slice none 0 0)))
  have HN := Lib.hid (TrS.new (S := S) (n := zeroN) (m := 0) (ks := []) (g := w.heap.size) rfl (RowS.nil w) TrsS_nil)
  go_enter Tryz.func81, Tryz.ntmps81
  go_wp2_with fail
  go_ret
  exact ⟨_, rfl, HN.out, HB.out⟩
theorem evIs_quiet (g : Nat) (k x : Int) (w : World) (h : w.cell? ⟨g, 0, none⟩ = some (.int .i64 k)) : Calls Tryz.prog 164 #[.pointer (some ⟨g, 0, none⟩), .int .i64 x] w fun e w' => e = .returned (.bool (k == x)) ∧ w' = w := by
  go_enter Tryz.func164, Tryz.ntmps164
  go_wp2_with fail
  go_ret
  exact ⟨rfl, rfl⟩
theorem evHolder_any (s : St) (w : World) : Calls Tryz.prog 182 #[sta s] w fun e w' => e = .returned (.int .i64 (stKind s)) ∧ Below w.heap.size w w' := by
  obtain ⟨p, nm, n⟩ := s
  have HB := Lib.hid ((Below.refl w.heap.size w).alloc (Nat.le_refl _) (.cells #[.bool p, .string ⟨nm.toArray⟩, .int .i64 n] 71))
  cases p
  · go_enter Tryz.func182, Tryz.ntmps182
    go_wp2_with fail
    go_ret
    exact ⟨rfl, HB.out⟩
  · go_enter Tryz.func182, Tryz.ntmps182
    go_wp2_with fail
    go_ret
    exact ⟨rfl, HB.out⟩
theorem evHoldName_quiet (g : Nat) (a b : List UInt8) (w : World) (h : w.cell? ⟨g, 2, none⟩ = some (.string ⟨a.toArray⟩)) : Calls Tryz.prog 184 #[.pointer (some ⟨g, 0, none⟩), .string ⟨b.toArray⟩] w fun e w' => e = .returned (.int .i64 (cmpB a b)) ∧ w = w' := by
  have HC := Lib.hid (cmpS_any ⟨a.toArray⟩ ⟨b.toArray⟩ w)
  go_enter Tryz.func184, Tryz.ntmps184
  go_wp2_with fail
  refine HC.out.mono ?_
  rintro e w' ⟨rfl, rfl⟩
  go_wp2_with fail
  go_ret
  exact ⟨rfl, rfl⟩
set_option maxHeartbeats 1000000 in
theorem evNamed_any (S : Nat → Prop) (t : Tr Nd) (v : Value) (nm : List UInt8) (w : World) (h : TrS S w t v) : Calls Tryz.prog 130 #[v, .string ⟨nm.toArray⟩] w (OutT S w (nmd nm t)) := by
  have H := Lib.hid h
  obtain ⟨g, m, A, c, vs, rfl, hS, hg, hn, h6, hr, hk⟩ := h.opened
  obtain ⟨c0, c1, c2, c3, c4, c5⟩ := hn
  simp only [Nat.zero_add] at c0 c1 c2 c3 c4 c5
  have HR := Lib.hid hr
  have HK := Lib.hid hk
  clear h hr hk
  by_cases he : t.nd.name = nm
  · have HE : Hid (nmd nm t = t) := Lib.hid (by rw [← he]; exact nmd_self t)
    rw [he] at c2
    clear he
    go_enter Tryz.func130, Tryz.ntmps130
    go_wp2_with fail
    go_ret
    exact ⟨_, rfl, by rw [HE.out]; exact H.out.mono (fun _ _ h => .inl h), Below.refl _ _⟩
  · have e2 : (t.nd.name == nm) = false := by simpa using he
    clear he
    have hb1 := (Below.refl w.heap.size w).alloc (Nat.le_refl _) (.cells #[.int .i64 t.nd.kind, .int .i64 m, .string ⟨nm.toArray⟩, .string ⟨t.nd.s.toArray⟩, .bool t.nd.neg, .int .i64 t.nd.e] 43)
    have HB := Lib.hid (hb1.alloc hb1.size (treeO (nmN nm t.nd) m (.slice A t.ks.length c)))
    have HN : Hid (TrS (Or S w.heap.size) ((w.alloc (.cells #[.int .i64 t.nd.kind, .int .i64 m, .string ⟨nm.toArray⟩, .string ⟨t.nd.s.toArray⟩, .bool t.nd.neg, .int .i64 t.nd.e] 43)).alloc (treeO (nmN nm t.nd) m (.slice A t.ks.length c))) (nmd nm t) (.pointer (some ⟨w.heap.size + 1, 0, none⟩))) :=
      Lib.hid ((TrS.new (S := S) (by simp) (HR.out.same hb1.size (fun b _ hl => hb1.block b hl)) (HK.out.below hb1)).mono (fun b _ h => h.imp id (Nat.le_trans hb1.size)))
    clear hb1
    go_enter Tryz.func130, Tryz.ntmps130
    go_wp2_with fail
    go_region
    all_goals go_wp2_with fail
    go_ret
    exact ⟨_, rfl, HN.out.drew, HB.out.drew⟩
/-- A value with these parts instead. -/
theorem evWith_any (S : Nat → Prop) (t : Tr Nd) (v : Value) (sl : Value) (vs : List Value) (ks : List (Tr Nd)) (w : World) (h : TrS S w t v) (hr : RowS S w sl vs) (hk : TrsS S w ks vs) :
    Calls Tryz.prog 128 #[v, sl] w (OutT S w (withK t ks)) := by
  obtain ⟨g, m, A, c, us, rfl, hS, hg, hn, h6, -, -⟩ := h.opened
  obtain ⟨c0, c1, c2, c3, c4, c5⟩ := hn
  simp only [Nat.zero_add] at c0 c1 c2 c3 c4 c5
  have HN := Lib.hid (TrS.new (n := { t.nd with many := ks.length }) (m := m) (g := w.heap.size) rfl hr hk)
  obtain ⟨B, d, rfl, -⟩ := hr
  have HB := Lib.hid ((Below.refl w.heap.size w).alloc (Nat.le_refl _) (treeO { t.nd with many := ks.length } m (.slice B vs.length d)))
  clear hk
  go_enter Tryz.func128, Tryz.ntmps128
  go_wp2_with fail
  go_ret
  exact ⟨_, rfl, HN.out, HB.out⟩
/-- A value's node alone. -/
def flatT (t : Tr Nd) : Tr Nd := .mk { t.nd with many := 0 } []
theorem evFlat_any (S : Nat → Prop) (t : Tr Nd) (v : Value) (w : World) (h : TrS S w t v) :
    Calls Tryz.prog 178 #[v] w fun e w' => e = .returned (.slice (some ⟨w.heap.size + 1, 0, none⟩) 1 1) ∧ Nds w' (.slice (some ⟨w.heap.size + 1, 0, none⟩) 1 1) (flat (flatT t)) ∧ Below w.heap.size w w' := by
  obtain ⟨g, m, A, c, us, rfl, hS, hg, hn, h6, -, -⟩ := h.opened
  obtain ⟨c0, c1, c2, c3, c4, c5⟩ := hn
  simp only [Nat.zero_add] at c0 c1 c2 c3 c4 c5
  have hb1 := (Below.refl w.heap.size w).alloc (Nat.le_refl _) (.cells #[.int .i64 t.nd.kind, .int .i64 0, .string ⟨t.nd.name.toArray⟩, .string ⟨t.nd.s.toArray⟩, .bool t.nd.neg, .int .i64 t.nd.e] 43)
  have HB := Lib.hid (hb1.alloc hb1.size (.cells #[.int .i64 t.nd.kind, .int .i64 0, .string ⟨t.nd.name.toArray⟩, .string ⟨t.nd.s.toArray⟩, .bool t.nd.neg, .int .i64 t.nd.e] 43))
  have HN := Lib.hid (Row.lit ndc_len (w.alloc (.cells #[.int .i64 t.nd.kind, .int .i64 0, .string ⟨t.nd.name.toArray⟩, .string ⟨t.nd.s.toArray⟩, .bool t.nd.neg, .int .i64 t.nd.e] 43)) 43 #[.int .i64 t.nd.kind, .int .i64 0, .string ⟨t.nd.name.toArray⟩, .string ⟨t.nd.s.toArray⟩, .bool t.nd.neg, .int .i64 t.nd.e] [{ t.nd with many := 0 }] (by show 1 ≤ maxLen; decide) rfl)
  rw [show (w.alloc (.cells #[.int .i64 t.nd.kind, .int .i64 0, .string ⟨t.nd.name.toArray⟩, .string ⟨t.nd.s.toArray⟩, .bool t.nd.neg, .int .i64 t.nd.e] 43)).heap.size = w.heap.size + 1 by simp] at HN
  clear hb1
  go_enter Tryz.func178, Tryz.ntmps178
  go_wp2_with fail
  go_ret
  exact ⟨rfl, HN.out, HB.out⟩
end Go.Proofs.YtdgcdemihalefaaGreatDoor

/-
  Which part of a value a step is to: the library's search by halves, place, step.
-/
namespace Go.Proofs.YtdgcdemihalefaaGreatDoor
open Go.RowKit Go.Shelf Np Rw Vp Pw Ev

/-- Where a name stands, or would stand, among names that rise. -/
structure Srch (nm : List UInt8) (ks : List (Tr Nd)) (i : Nat) : Prop where
  le : i ≤ ks.length
  lo : ∀ k u, k < i → ks[k]? = some u → u.nd.name < nm
  hi : ∀ k u, i ≤ k → ks[k]? = some u → ¬ u.nd.name < nm
def fnd (nm : List UInt8) (ks : List (Tr Nd)) (i : Nat) : Bool := match ks[i]? with
  | some u => decide (u.nd.name = nm)
  | none => false
theorem rise_lt {ks : List (Tr Nd)} (h : Rise ks) {i k : Nat} {u v : Tr Nd} (hik : i < k) (hu : ks[i]? = some u) (hv : ks[k]? = some v) : u.nd.name < v.nd.name := by
  obtain ⟨h1, h2⟩ := List.getElem?_eq_some_iff.1 hu
  obtain ⟨h3, h4⟩ := List.getElem?_eq_some_iff.1 hv
  rw [← h2, ← h4]
  exact List.pairwise_iff_getElem.1 h i k h1 h3 hik
theorem Srch.kid {s : St} {t : Tr Nd} {i : Nat} (h : Srch s.name t.ks i) (hs : s.part = false) (h6 : t.nd.kind = 6) (hr : Rise t.ks) : kid s t = if fnd s.name t.ks i = true then some i else none := by
  have hk : Pw.kid s t = seekN s (names t.ks) 0 := by unfold Pw.kid; rw [if_pos (by rw [h6]; simp [stKind, hs])]
  rw [hk]
  have hat : ∀ k, (names t.ks)[k]? = (t.ks[k]?).map (fun u : Tr Nd => u.nd.name) := fun k => by rw [names, List.getElem?_map]
  cases hj : seekN s (names t.ks) 0 with
  | some j =>
    obtain ⟨-, h2, a, h3, h4⟩ := seekN_ge s _ _ _ hj
    rw [Nat.sub_zero, hat] at h3
    obtain ⟨u, hu, rfl⟩ := Option.map_eq_some_iff.1 h3
    rw [lead_field hs, decide_eq_true_eq] at h4
    have hji : j = i := by
      rcases Nat.lt_trichotomy j i with hlt | he | hgt
      · have := h.lo j u hlt hu
        rw [h4] at this
        exact absurd this (List.lt_irrefl _)
      · exact he
      · obtain ⟨v, hv⟩ : ∃ v, t.ks[i]? = some v := ⟨_, List.getElem?_eq_getElem (Nat.lt_trans hgt (List.getElem?_eq_some_iff.1 hu).1)⟩
        have h5 := rise_lt hr hgt hv hu
        rw [h4] at h5
        exact absurd h5 (h.hi i v (Nat.le_refl _) hv)
    subst hji
    have : fnd s.name t.ks j = true := by unfold fnd; rw [hu]; simp [h4]
    rw [if_pos this]
  | none =>
    have h1 := (seekN_none s _ _).1 hj
    have : ¬ fnd s.name t.ks i = true := by
      unfold fnd
      cases hu : t.ks[i]? with
      | none => simp
      | some u =>
        have := h1 i u.nd.name (by rw [hat, hu]; rfl)
        rw [lead_field hs] at this
        simpa using this
    rw [if_neg this]
theorem cmpB_neg1 (a b : List UInt8) : decide (cmpB a b < 0) = decide (a < b) := by
  have h := cmpB_lt a b
  by_cases h2 : a < b
  · rw [h.2 h2]; simp [h2]
  · have : cmpB a b ≠ -1 := fun e => h2 (h.1 e)
    rcases cmpB_cases a b with h3 | h3 | h3
    · exact absurd h3 this
    · simp [h2, h3]
    · simp [h2, h3]

theorem half_wrap {i j N : Nat} (h : i < j) (hj : j ≤ N) (hN : N ≤ 2 ^ 63 - 1) : wrap64 (IntKind.u64.wrap (wrap64 ((i : Int) + j)) / 2) = ((i + j) / 2 : Nat) := by
  have e : ∀ x : Int, IntKind.u64.wrap x = x % 18446744073709551616 := fun x => rfl
  rw [e]
  unfold wrap64
  omega
set_option maxRecDepth 100000 in
set_option maxHeartbeats 2000000 in
theorem bsearch_any (S : Nat → Prop) (ks : List (Tr Nd)) (vs : List Value) (sl : Value) (nm : List UInt8) (w : World) (hr : RowS S w sl vs) (hk : TrsS S w ks vs) (hn : Rise ks) :
    Calls Tryz.prog 183 #[sl, .string ⟨nm.toArray⟩, .func (.func 184) #[] #[]] w fun e w' => ∃ i : Nat, Srch nm ks i ∧ e = .returned (.tuple #[.int .i64 i, .bool (fnd nm ks i)]) ∧ w' = w := by
  have eK : ∀ args w, (callFunc 184 args).run Tryz.prog w = .ok (.enter 184 args) w := enters_of Tryz.func184 (by kernel_rfl) rfl
  obtain ⟨A, c, rfl, hc, hcm, -, H⟩ := hr
  have hl := TrsS_len hk
  have HH := Lib.hid H
  have HK := Lib.hid hk
  have HL := Lib.hid hl
  have HN := Lib.hid hn
  clear H hk hn
  generalize hn : vs.length = N at *
  have HNN := Lib.hid hn
  clear hn hl
  unfold maxLen at hcm
  go_enter Tryz.func183, Tryz.ntmps183
  go_wp2_with fail
  go_loopw [9, 10] (fun iv jv wr => ∃ i j : Nat, i ≤ j ∧ j ≤ N ∧ iv = .int .i64 i ∧ jv = .int .i64 j ∧ Hid ((∀ k u, k < i → ks[k]? = some u → u.nd.name < nm) ∧ (∀ k u, j ≤ k → ks[k]? = some u → ¬ u.nd.name < nm)) ∧ wr = w) (fun iv jv _ => (intOf jv - intOf iv).toNat)
  case atStart => exact ⟨0, N, Nat.zero_le _, Nat.le_refl _, rfl, rfl, Lib.hid ⟨fun k u h => by omega, fun k u h1 h2 => by
    have := (List.getElem?_eq_some_iff.1 h2).1
    have := HL.out; omega⟩, rfl⟩
  case round =>
    obtain ⟨i, j, hij, hjn, rfl, rfl, HI, rfl⟩ := hrel
    by_cases hlt : i < j
    · have hm := half_wrap hlt hjn (by omega : N ≤ 2 ^ 63 - 1)
      obtain ⟨h1, h2⟩ : i ≤ (i + j) / 2 ∧ (i + j) / 2 < j := by omega
      generalize (i + j) / 2 = m at hm h1 h2
      obtain ⟨g, o, rfl, hS, hg, hx⟩ := HH.out (by omega)
      obtain ⟨u, hu⟩ : ∃ u, ks[m]? = some u := ⟨_, List.getElem?_eq_getElem (by rw [← HL.out]; omega)⟩
      obtain ⟨p, hp, hpt⟩ := TrsS_at HK.out hu
      obtain ⟨g2, m2, A2, c2, us2, rfl, -, hg2, hn2, -, -, -⟩ := hpt.opened
      have a0 := hx m _ hp
      have HU := Lib.hid hu
      have HC := Lib.hid (evHoldName_quiet g2 u.nd.name nm wr (by have := hn2.c2; simpa using this))
      have hd := cmpB_neg1 u.nd.name nm
      clear hu hpt hn2 hp hx
      go_wp2_with fail
      refine HC.out.mono ?_
      rintro e w' ⟨rfl, rfl⟩
      by_cases hl2 : u.nd.name < nm
      · have hd2 : decide (cmpB u.nd.name nm < 0) = true := by rw [hd]; simp [hl2]
        have HX : Hid ((∀ k v, k < m + 1 → ks[k]? = some v → v.nd.name < nm) ∧ (∀ k v, j ≤ k → ks[k]? = some v → ¬ v.nd.name < nm)) := Lib.hid ⟨fun k v hk hv => by
          rcases Nat.lt_or_ge k m with h | h
          · exact List.lt_trans (rise_lt HN.out h hv HU.out) hl2
          · obtain rfl : k = m := by omega
            have := HU.out; rw [hv] at this; injection this with this; subst this; exact hl2, HI.out.2⟩
        clear hl2 hd
        go_wp2_with fail
        go_roundw
        case rel => exact ⟨m + 1, j, by omega, hjn, by go_num, rfl, HX, trivial⟩
        case measure => simp [intOf]; omega
      · have hd2 : decide (cmpB u.nd.name nm < 0) = false := by rw [hd]; simp [hl2]
        have HX : Hid ((∀ k v, k < i → ks[k]? = some v → v.nd.name < nm) ∧ (∀ k v, m ≤ k → ks[k]? = some v → ¬ v.nd.name < nm)) := Lib.hid ⟨HI.out.1, fun k v hk hv => by
          rcases Nat.lt_or_ge m k with h | h
          · exact fun h3 => hl2 (List.lt_trans (rise_lt HN.out h HU.out hv) h3)
          · obtain rfl : k = m := by omega
            have := HU.out; rw [hv] at this; injection this with this; subst this; exact hl2⟩
        clear hl2 hd
        go_wp2_with fail
        go_roundw
        case rel => exact ⟨i, m, by omega, by omega, rfl, rfl, HX, trivial⟩
        case measure => simp [intOf]; omega
    · obtain rfl : i = j := by omega
      have HS : Hid (Srch nm ks i) := Lib.hid ⟨by have := HL.out; omega, HI.out.1, HI.out.2⟩
      by_cases hin : i < N
      · obtain ⟨g, o, rfl, hS, hg, hx⟩ := HH.out (by omega)
        obtain ⟨u, hu⟩ : ∃ u, ks[i]? = some u := ⟨_, List.getElem?_eq_getElem (by rw [← HL.out]; omega)⟩
        obtain ⟨p, hp, hpt⟩ := TrsS_at HK.out hu
        obtain ⟨g2, m2, A2, c2, us2, rfl, -, hg2, hn2, -, -, -⟩ := hpt.opened
        have a0 := hx i _ hp
        have HU := Lib.hid hu
        have HC := Lib.hid (evHoldName_quiet g2 u.nd.name nm wr (by have := hn2.c2; simpa using this))
        have HF : Hid ((cmpB u.nd.name nm == 0) = fnd nm ks i) := Lib.hid (by
          unfold fnd
          rw [hu]
          have := cmpB_eq u.nd.name nm
          by_cases h : u.nd.name = nm
          · rw [this.2 h]; simp [h]
          · simp [h]
            exact fun e => h (this.1 e))
        clear hu hpt hn2 hp hx
        go_wp2_with fail
        refine HC.out.mono ?_
        rintro e w' ⟨rfl, rfl⟩
        go_wp2_with fail
        rw [HF.out]
        go_ret2
        exact ⟨i, HS.out, rfl, rfl⟩
      · have HF : Hid (fnd nm ks i = false) := Lib.hid (by
          unfold fnd
          rw [List.getElem?_eq_none (by rw [← HL.out]; omega)])
        go_wp2_with fail
        go_ret2
        exact ⟨i, HS.out, by rw [HF.out]; rfl, rfl⟩
end Go.Proofs.YtdgcdemihalefaaGreatDoor

/-
  Which part of a value a step is to: place; what it has behind a step: step.
-/
namespace Go.Proofs.YtdgcdemihalefaaGreatDoor
open Go.RowKit Go.Shelf Np Rw Vp Pw Ev

theorem seek_partE {s : St} {n : Nat} (hs : s.part = true) (hn : s.n = n) : ∀ (l : List (List UInt8)) (k : Nat), k ≤ n → seekN s l k = if n < k + l.length then some n else none
  | [], k, h => by rw [seekN, if_neg (by simp; omega)]
  | a :: l, k, h => by
    rw [seekN]
    have hl : lead s k a = decide ((k : Int) = s.n) := by unfold lead; simp [hs]
    rw [hl, hn]
    by_cases he : k = n
    · subst he
      rw [if_pos (by simp), if_pos (by simp)]
    · rw [if_neg (by simp; omega), seek_partE hs hn l (k + 1) (by omega), List.length_cons]
      congr 1
      simp only [eq_iff_iff]
      omega
theorem kid_partE {s : St} {t : Tr Nd} {n : Nat} (hs : s.part = true) (hn : s.n = n) : kid s t = if t.nd.kind = 5 then (if n < t.ks.length then some n else none) else none := by
  unfold kid stKind
  rw [hs, seek_partE hs hn _ 0 (Nat.zero_le _)]
  simp [names]
/-- What place tells. -/
def plcV (s : St) (t : Tr Nd) : Int × Int := if asks s t = true then (match kid s t with | none => (-1, 0) | some k => (k, 0)) else (-1, 5)
theorem rgt_leaf {t : Tr Nd} (h : Rgt t) (h0 : t.nd.kind = 0) : t.ks = [] := by
  have := h.clr.leaf (t := nmd [] t) (by show t.nd.kind ≠ 5; omega) (by show t.nd.kind ≠ 6; omega)
  exact this
theorem plcV_bad {s : St} {t : Tr Nd} (h : asks s t = false) : plcV s t = (-1, 5) := by unfold plcV; rw [h]; rfl
theorem plcV_ok {s : St} {t : Tr Nd} (h : asks s t = true) : plcV s t = (match kid s t with | none => (-1, 0) | some k => ((k : Int), (0 : Int))) := by unfold plcV; rw [if_pos h]
/-- What stays of a step and of a tree, in a walk over both. -/
structure Plc (w : World) (b g : Nat) (s : St) (k : Int) (sl : Value) (W : World) : Prop where
  q0 : W.cell? ⟨b, 0, none⟩ = some (.bool s.part)
  q1 : W.cell? ⟨b, 1, none⟩ = some (.string ⟨s.name.toArray⟩)
  q2 : W.cell? ⟨b, 2, none⟩ = some (.int .i64 s.n)
  c0 : W.cell? ⟨g, 0, none⟩ = some (.int .i64 k)
  c6 : W.cell? ⟨g, 6, none⟩ = some sl
  hb : Below w.heap.size w W
theorem Plc.below {w W W' : World} {b g : Nat} {s : St} {k : Int} {sl : Value} (h : Plc w b g s k sl W) (hb : Below W.heap.size W W') : Plc w b g s k sl W' :=
  ⟨(hb.cell (World.block_lt_of_cell? _ _ h.q0)).trans h.q0, (hb.cell (World.block_lt_of_cell? _ _ h.q1)).trans h.q1, (hb.cell (World.block_lt_of_cell? _ _ h.q2)).trans h.q2, (hb.cell (World.block_lt_of_cell? _ _ h.c0)).trans h.c0, (hb.cell (World.block_lt_of_cell? _ _ h.c6)).trans h.c6, h.hb.trans (hb.mono h.hb.size)⟩
set_option maxRecDepth 100000 in
set_option maxHeartbeats 2000000 in
theorem evPlace_any (S : Nat → Prop) (t : Tr Nd) (v : Value) (s : St) (w : World) (h : TrS S w t v) (ht : Rgt t) (hs : rightS s = true) :
    Calls Tryz.prog 127 #[v, sta s] w fun e w' => e = .returned (.tuple #[.int .i64 (plcV s t).1, .int .i64 (plcV s t).2]) ∧ Below w.heap.size w w' := by
  have hb := (Below.refl w.heap.size w).alloc (Nat.le_refl _) (.cells #[.bool s.part, .string ⟨s.name.toArray⟩, .int .i64 s.n] 71)
  obtain ⟨g, m, A, c, vs, rfl, hS, hg, hn, h6, hr, hk⟩ := h.opened
  have HP : Hid (Plc w w.heap.size g s t.nd.kind (.slice A t.ks.length c) (w.alloc (.cells #[.bool s.part, .string ⟨s.name.toArray⟩, .int .i64 s.n] 71))) := Lib.hid
    ⟨by simp [World.cell?_alloc_new], by simp [World.cell?_alloc_new], by simp [World.cell?_alloc_new], (hb.cell hg).trans hn.c0, (hb.cell hg).trans h6, hb⟩
  have HBS : Hid (∀ W, Below w.heap.size w W → s.part = false → Rise t.ks → Calls Tryz.prog 183 #[.slice A t.ks.length c, .string ⟨s.name.toArray⟩, .func (.func 184) #[] #[]] W fun e w' => ∃ i : Nat, Srch s.name t.ks i ∧ e = .returned (.tuple #[.int .i64 i, .bool (fnd s.name t.ks i)]) ∧ w' = W) :=
    Lib.hid (fun W hW _ hn => bsearch_any S t.ks vs _ s.name W (hr.same hW.size (fun b _ hl => hW.block b hl)) (hk.below hW) hn)
  have HHO := Lib.hid (fun (W : World) => evHolder_any s W)
  have hlen : t.ks.length ≤ 2 ^ 63 - 1 := by
    have := hr.row.len
    rw [TrsS_len hk] at this
    exact this
  have HRT := Lib.hid ht
  have HRS := Lib.hid hs
  clear h hn h6 hr hk ht hb hs
  have HI := Lib.hid (fun (W : World) (x : Int) (hW : Plc w w.heap.size g s t.nd.kind (.slice A t.ks.length c) W) => evIs_quiet g t.nd.kind x W hW.c0)
  have hask : asks s t = (t.nd.kind == 0 || t.nd.kind == stKind s) := by unfold asks; by_cases h1 : t.nd.kind = 0 <;> by_cases h2 : t.nd.kind = stKind s <;> simp [h1, h2]
  have HLF := rgt_leaf HRT.out
  obtain ⟨n0, hn0⟩ : ∃ n0 : Nat, s.n = n0 := by
    have := HRS.out
    unfold rightS at this
    split at this
    · simp only [Bool.and_eq_true, decide_eq_true_eq] at this
      exact ⟨s.n.toNat, by omega⟩
    · simp at this
      exact ⟨0, this.1⟩
  have HV1 := Lib.hid (plcV_bad (s := s) (t := t))
  have HTP : Hid (asks s t = true → s.part = true → plcV s t = if n0 < t.ks.length then ((n0 : Int), (0 : Int)) else (-1, 0)) := Lib.hid (fun ha hp => by
    rw [plcV_ok ha, kid_partE hp hn0]
    by_cases h0 : t.nd.kind = 0
    · rw [HLF h0, if_neg (by omega)]; simp
    · have h5 : t.nd.kind = 5 := by
        rw [hask] at ha
        simp [h0] at ha
        rw [ha]; simp [stKind, hp]
      rw [if_pos h5]
      by_cases hl : n0 < t.ks.length
      · rw [if_pos hl, if_pos hl]
      · rw [if_neg hl, if_neg hl])
  have HFP : Hid (asks s t = true → s.part = false → Rise t.ks ∧ ∀ i, Srch s.name t.ks i → plcV s t = if fnd s.name t.ks i = true then ((i : Int), (0 : Int)) else (-1, 0)) := Lib.hid (fun ha hp => by
    by_cases h0 : t.nd.kind = 0
    · have hks := HLF h0
      refine ⟨by rw [hks]; exact List.Pairwise.nil, fun i _ => ?_⟩
      have : fnd s.name t.ks i = false := by rw [hks]; rfl
      rw [plcV_ok ha, kid_null h0, this]; rfl
    · have h6 : t.nd.kind = 6 := by
        rw [hask] at ha
        simp [h0] at ha
        rw [ha]; simp [stKind, hp]
      have hr := (rgt_named HRT.out h6).1
      refine ⟨hr, fun i hi => ?_⟩
      rw [plcV_ok ha, hi.kid hp h6 hr]
      cases fnd s.name t.ks i <;> rfl)
  clear HLF
  generalize plcV s t = ans at *
  generalize asks s t = ask at *
  generalize stKind s = sk at *
  generalize t.ks.length = N at *
  generalize hkind : t.nd.kind = K at *
  clear hkind HRT HRS
  have HASK := Lib.hid hask
  clear hask
  obtain ⟨p, nm, n⟩ := s
  simp only at hn0 HTP HFP HBS
  subst hn0
  have g0 : decide ((0 : Int) ≤ (n0 : Int)) = true := by simp
  go_enter Tryz.func127, Tryz.ntmps127
  go_wp2_with fail
  refine (HI.out _ 0 HP.out).mono ?_
  rintro e w1 ⟨rfl, rfl⟩
  generalize w.alloc (.cells #[.bool p, .string ⟨nm.toArray⟩, .int .i64 (n0 : Int)] 71) = W1 at HP ⊢
  obtain ⟨q0, q1, q2, c0, c6, hb1⟩ := HP.out
  cases hk0 : (K == 0)
  · go_wp2_with fail
    refine (HHO.out W1).mono ?_
    rintro e w2 ⟨rfl, hb2⟩
    have HP2 := Lib.hid (HP.out.below hb2)
    clear q0 q1 q2 c0 c6 hb1 hb2
    obtain ⟨q0, q1, q2, c0, c6, hb1⟩ := HP2.out
    go_wp2_with fail
    refine (HI.out _ sk HP2.out).mono ?_
    rintro e w3 ⟨rfl, rfl⟩
    cases hk1 : (K == sk)
    · have he := HV1.out (by rw [HASK.out, hk0, hk1]; rfl)
      subst he
      go_wp2_with fail
      go_ret2
      exact ⟨rfl, hb1⟩
    · have HA : Hid (ask = true) := Lib.hid (by rw [HASK.out, hk1]; simp)
      clear hk0 hk1
      cases p
      · obtain ⟨hrise, hfx⟩ := HFP.out HA.out rfl
        have HFX := Lib.hid hfx
        have HBX := Lib.hid (fun W hW => HBS.out W hW rfl hrise)
        clear hfx HFP HTP HBS
        go_wp2_with fail
        go_quiet (fail)
        go_wp2_with fail
        go_region_with (go_at_call 183; refine (HBX.out _ (drewN_below hb1 _).drew).mono ?_; rintro e w5 ⟨i, hi, rfl, rfl⟩)
        all_goals
          have he := HFX.out i hi
          cases hf : fnd nm t.ks i
          · rw [hf, if_neg (by simp)] at he
            subst he
            go_wp2_with fail
            go_ret2
            exact ⟨rfl, drewN_below hb1 _⟩
          · rw [hf, if_pos rfl] at he
            subst he
            go_wp2_with fail
            go_ret2
            exact ⟨rfl, drewN_below hb1 _⟩
      · have he := HTP.out HA.out rfl
        clear HFP HTP HBS
        by_cases hl : n0 < N
        · rw [if_pos hl] at he
          subst he
          have g1 : decide (n0 < N) = true := by simp [hl]
          clear hl
          go_wp2_with fail
          go_quiet (fail)
          go_wp2_with fail
          go_ret2
          exact ⟨rfl, drewN_below hb1 _⟩
        · rw [if_neg hl] at he
          subst he
          have g1 : decide (n0 < N) = false := by simp; omega
          clear hl
          go_wp2_with fail
          go_quiet (fail)
          go_wp2_with fail
          go_ret2
          exact ⟨rfl, drewN_below hb1 _⟩
  · have HA : Hid (ask = true) := Lib.hid (by rw [HASK.out, hk0]; rfl)
    clear hk0
    cases p
    · obtain ⟨hrise, hfx⟩ := HFP.out HA.out rfl
      have HFX := Lib.hid hfx
      have HBX := Lib.hid (fun W hW => HBS.out W hW rfl hrise)
      clear hfx HFP HTP HBS
      go_wp2_with fail
      go_quiet (fail)
      go_wp2_with fail
      go_region_with (go_at_call 183; refine (HBX.out _ (drewN_below hb1 _).drew).mono ?_; rintro e w5 ⟨i, hi, rfl, rfl⟩)
      all_goals
        have he := HFX.out i hi
        cases hf : fnd nm t.ks i
        · rw [hf, if_neg (by simp)] at he
          subst he
          go_wp2_with fail
          go_ret2
          exact ⟨rfl, drewN_below hb1 _⟩
        · rw [hf, if_pos rfl] at he
          subst he
          go_wp2_with fail
          go_ret2
          exact ⟨rfl, drewN_below hb1 _⟩
    · have he := HTP.out HA.out rfl
      clear HFP HTP HBS
      by_cases hl : n0 < N
      · rw [if_pos hl] at he
        subst he
        have g1 : decide (n0 < N) = true := by simp [hl]
        clear hl
        go_wp2_with fail
        go_quiet (fail)
        go_wp2_with fail
        go_ret2
        exact ⟨rfl, drewN_below hb1 _⟩
      · rw [if_neg hl] at he
        subst he
        have g1 : decide (n0 < N) = false := by simp; omega
        clear hl
        go_wp2_with fail
        go_quiet (fail)
        go_wp2_with fail
        go_ret2
        exact ⟨rfl, drewN_below hb1 _⟩
end Go.Proofs.YtdgcdemihalefaaGreatDoor

/-
  What a value has behind a step; what a path gives.
-/
namespace Go.Proofs.YtdgcdemihalefaaGreatDoor
open Go.RowKit Go.Shelf Np Rw Vp Pw Ev

/-- What comes out of a filter: a tree, of what came in and of new blocks; or an error. -/
def OutR (S : Nat → Prop) (w : World) (r : Rz) (e : Ending) (w' : World) : Prop := match r with
  | .ok t => ∃ g : Nat, e = .returned (.tuple #[.pointer (some ⟨g, 0, none⟩), .int .i64 0]) ∧ TrS (Or S w.heap.size) w' t (.pointer (some ⟨g, 0, none⟩)) ∧ Below w.heap.size w w'
  | .bad k => e = .returned (.tuple #[.pointer none, .int .i64 k]) ∧ Below w.heap.size w w'
theorem step_at {s : St} {t : Tr Nd} (h : asks s t = true) : stepE s t = some (match kid s t with | none => nullT | some k => nmd [] (t.ks.getD k nullT)) := by unfold stepE; rw [if_pos h] <;> rfl
set_option maxRecDepth 100000 in
set_option maxHeartbeats 2000000 in
theorem evStep_any (S : Nat → Prop) (t : Tr Nd) (v : Value) (s : St) (w : World) (h : TrS S w t v) (ht : Rgt t) (hs : rightS s = true) :
    Calls Tryz.prog 84 #[v, sta s] w (OutR S w (ofO (stepE s t))) := by
  have hb := (Below.refl w.heap.size w).alloc (Nat.le_refl _) (.cells #[.bool s.part, .string ⟨s.name.toArray⟩, .int .i64 s.n] 71)
  have HB := Lib.hid hb
  have HP := Lib.hid (fun W (hW : Below w.heap.size w W) => evPlace_any S t v s W (h.below hW) ht hs)
  obtain ⟨g, m, A, c, vs, rfl, hS, hg, hn, h6, hr, hk⟩ := h.opened
  have HR := Lib.hid hr
  have HK := Lib.hid hk
  have H6 := Lib.hid h6
  have HBD := Lib.hid (fun ha => plcV_bad (s := s) (t := t) ha)
  have HOK := Lib.hid (fun ha => plcV_ok (s := s) (t := t) ha)
  have HSN := Lib.hid (fun ha => step_not (s := s) (t := t) ha)
  have HSA := Lib.hid (fun ha => step_at (s := s) (t := t) ha)
  have hkl := fun k (h : kid s t = some k) => kid_at h
  have HKL := Lib.hid hkl
  clear h ht hs hr hk h6 hn hkl hb
  generalize plcV s t = pl at *
  generalize hst : stepE s t = R at *
  clear hst
  generalize hkd : kid s t = kd at *
  clear hkd
  have q0 : (w.alloc (.cells #[.bool s.part, .string ⟨s.name.toArray⟩, .int .i64 s.n] 71)).cell? ⟨w.heap.size, 0, none⟩ = some (.bool s.part) := by simp [World.cell?_alloc_new]
  have q1 : (w.alloc (.cells #[.bool s.part, .string ⟨s.name.toArray⟩, .int .i64 s.n] 71)).cell? ⟨w.heap.size, 1, none⟩ = some (.string ⟨s.name.toArray⟩) := by simp [World.cell?_alloc_new]
  have q2 : (w.alloc (.cells #[.bool s.part, .string ⟨s.name.toArray⟩, .int .i64 s.n] 71)).cell? ⟨w.heap.size, 2, none⟩ = some (.int .i64 s.n) := by simp [World.cell?_alloc_new]
  cases ha : asks s t
  · have h1 := HBD.out ha
    have h2 := HSN.out ha
    subst h1 h2
    go_enter Tryz.func84, Tryz.ntmps84
    go_wp2_with fail
    refine (HP.out _ HB.out).mono ?_
    rintro e w1 ⟨rfl, hb1⟩
    have hb2 := HB.out.trans (hb1.mono HB.out.size)
    clear q0 q1 q2
    go_wp2_with fail
    go_ret2
    exact ⟨rfl, hb2⟩
  · have h1 := HOK.out ha
    have h2 := HSA.out ha
    cases kd with
    | none =>
      simp only at h1 h2
      subst h1 h2
      go_enter Tryz.func84, Tryz.ntmps84
      go_wp2_with fail
      refine (HP.out _ HB.out).mono ?_
      rintro e w1 ⟨rfl, hb1⟩
      have HB2 := Lib.hid (HB.out.trans (hb1.mono HB.out.size))
      clear q0 q1 q2
      go_wp2_with fail
      refine (evNull_any S _).mono ?_
      rintro e w2 hw2
      obtain ⟨g2, rfl, ht2, hb2⟩ := hw2
      have HT2 := Lib.hid ht2
      clear ht2
      go_wp2_with fail
      go_ret2
      exact ⟨g2, rfl, HT2.out.mono (fun _ _ => Or.mono HB2.out.size), HB2.out.trans (hb2.mono HB2.out.size)⟩
    | some k =>
      simp only at h1 h2
      obtain ⟨u, hu, hgd, -, -, hkl, -⟩ := HKL.out k rfl
      rw [hgd] at h2
      subst h1 h2
      obtain ⟨p, hp, hpt⟩ := TrsS_at HK.out hu
      have HNM := Lib.hid (fun W (hW : Below w.heap.size w W) => evNamed_any S u p [] W (hpt.below hW))
      obtain ⟨A', c', hv, -, -, -, HH⟩ := HR.out
      injection hv with e1 e2 e3
      subst e1
      obtain ⟨g2, o2, rfl, -, hg2, hx⟩ := HH (by have := TrsS_len HK.out; omega)
      have a0 := Lib.hid (hx k p hp)
      clear hx HH e3 hu hgd hp hpt
      have hkN : k < t.ks.length := hkl
      generalize t.ks.length = N at *
      clear hkl e2
      go_enter Tryz.func84, Tryz.ntmps84
      go_wp2_with fail
      refine (HP.out _ HB.out).mono ?_
      rintro e w1 ⟨rfl, hb1⟩
      have HB2 := Lib.hid (HB.out.trans (hb1.mono HB.out.size))
      have c6 := (HB2.out.cell (p := ⟨g, 6, none⟩) hg).trans H6.out
      have b0 := (HB2.out.cell (p := ⟨g2, o2 + k, none⟩) hg2).trans a0.out
      clear q0 q1 q2 hb1
      go_wp2_with fail
      refine (HNM.out _ HB2.out).mono ?_
      rintro e w2 hw2
      obtain ⟨g3, rfl, ht2, hb2⟩ := hw2
      have HT2 := Lib.hid ht2
      clear ht2
      go_wp2_with fail
      go_ret2
      exact ⟨g3, rfl, HT2.out.mono (fun _ _ => Or.mono HB2.out.size), HB2.out.trans (hb2.mono HB2.out.size)⟩
end Go.Proofs.YtdgcdemihalefaaGreatDoor

/-
  What a path gives: along, and the closure that it makes.
-/
namespace Go.Proofs.YtdgcdemihalefaaGreatDoor
open Go.RowKit Go.Shelf Np Rw Vp Pw Ev

set_option maxRecDepth 100000 in
set_option maxHeartbeats 2000000 in
theorem alongC_any (S : Nat → Prop) (p : List St) (t : Tr Nd) (v sl : Value) (b : Nat) (w : World) (hb : w.cell? ⟨b, 0, none⟩ = some sl) (hp : Sps w sl p) (hps : ∀ s ∈ p, rightS s = true) (h : TrS S w t v) (ht : Val t) :
    Calls Tryz.prog 83 #[v, .pointer (some ⟨b, 0, none⟩)] w (OutR S w (ofO (alongE p t))) := by
  obtain ⟨g0, _, _, _, _, rfl, -⟩ := h.opened
  have H := Lib.hid h
  have HP := Lib.hid hp
  obtain ⟨A, c, rfl, hc, hcm, -⟩ := hp
  have HB := Lib.hid hb
  have HPS := Lib.hid hps
  have HV := Lib.hid ht
  clear h hps ht
  generalize hr : alongE p t = R at *
  have HR := Lib.hid hr
  clear hr
  generalize hn : p.length = N at *
  have HN := Lib.hid hn
  clear hn
  unfold maxLen at hcm
  go_enter Tryz.func83, Tryz.ntmps83
  go_wp2_with fail
  go_loopw [0, 11] (fun vv iv wr => ∃ (k g : Nat) (x : Tr Nd), k ≤ N ∧ iv = .int .i64 k ∧ vv = .pointer (some ⟨g, 0, none⟩) ∧ Hid (TrS (Or S w.heap.size) wr x (.pointer (some ⟨g, 0, none⟩))) ∧ Hid (Val x) ∧ Hid (alongE (p.drop k) x = R) ∧ Hid (Below w.heap.size w wr)) (fun _ iv _ => N - (intOf iv).toNat)
  case atStart => exact ⟨0, g0, t, Nat.zero_le _, rfl, rfl, Lib.hid (H.out.mono (fun _ _ => .inl)), HV, Lib.hid HR.out, Lib.hid (Below.refl _ _)⟩
  case round =>
    obtain ⟨k, g, x, hk, rfl, rfl, HT, HX, HRK, HBW⟩ := hrel
    by_cases hlt : k < N
    · obtain ⟨s, hs⟩ : ∃ s, p[k]? = some s := ⟨_, List.getElem?_eq_getElem (by rw [HN.out]; exact hlt)⟩
      have hd : p.drop k = s :: p.drop (k + 1) := by
        obtain ⟨h1, h2⟩ := List.getElem?_eq_some_iff.1 hs
        rw [← h2, List.getElem_cons_drop]
      have HRS := Lib.hid (HPS.out s (List.mem_of_getElem? hs))
      have HR2 : Hid ((match stepE s x with | none => none | some u => alongE (p.drop (k + 1)) u) = R) := Lib.hid (by rw [← HRK.out, hd, alongE] <;> rfl)
      have hpw := HP.out.below HBW.out
      obtain ⟨A', c', hv, -, -, -, HH⟩ := hpw
      injection hv with e1 e2 e3
      subst e1
      obtain ⟨g2, o2, rfl, hg2, hx⟩ := HH (by rw [HN.out]; omega)
      obtain ⟨a0, a1, a2⟩ := (hx k s hs).sp
      clear hx HH e3 e2 hs hd
      go_wp2_with fail
      have HBA : Hid (∀ ob, Below wr.heap.size wr (wr.alloc ob)) := Lib.hid (fun ob => (Below.refl _ _).alloc (Nat.le_refl _) ob)
      refine (evStep_any (Or S w.heap.size) x (.pointer (some ⟨g, 0, none⟩)) s _ (HT.out.below (HBA.out _)) (rgt_of HX.out) HRS.out).mono ?_
      rintro e w2 hw2
      cases hst : stepE s x with
      | none =>
        rw [hst] at hw2
        obtain ⟨rfl, hb2⟩ := hw2
        have hrf : R = none := by have := HR2.out; rw [hst] at this; exact this.symm
        subst hrf
        have HB2 := Lib.hid (HBW.out.trans (((HBA.out _).trans (hb2.mono (HBA.out _).size)).mono HBW.out.size))
        clear hb2 a0 a1 a2 hst
        go_wp2_with fail
        go_ret2
        exact ⟨rfl, HB2.out⟩
      | some u =>
        rw [hst] at hw2
        obtain ⟨g3, rfl, ht2, hb2⟩ := hw2
        have HR3 : Hid (alongE (p.drop (k + 1)) u = R) := Lib.hid (by have := HR2.out; rw [hst] at this; exact this)
        have HX2 := Lib.hid (step_val (rgt_of HX.out) hst)
        have HB2 := Lib.hid (HBW.out.trans (((HBA.out _).trans (hb2.mono (HBA.out _).size)).mono HBW.out.size))
        have HT2 : Hid (TrS (Or S w.heap.size) w2 u (.pointer (some ⟨g3, 0, none⟩))) := Lib.hid (ht2.mono (fun b _ h => h.elim id (fun h => .inr (Nat.le_trans HBW.out.size (Nat.le_trans (HBA.out _).size h)))))
        clear hb2 ht2 a0 a1 a2 hst
        go_wp2_with fail
        go_roundw
        case rel => exact ⟨k + 1, g3, u, by omega, by go_num, rfl, HT2, HX2, HR3, HB2⟩
        case measure => simp [intOf]; omega
    · have hkN : k = N := by omega
      have HRF : Hid (R = some x) := Lib.hid (by rw [← HRK.out, List.drop_of_length_le (by rw [HN.out]; omega)]; rfl)
      subst hkN
      have hrf := HRF.out
      subst hrf
      go_wp2_with fail
      go_ret2
      exact ⟨g, rfl, HT.out, HBW.out⟩
/-- A closure gives of each tree what the plain word says. -/
def Gives (B : Nat) (w : World) (fv : Value) (F : Tr Nd → Rz) : Prop := ∃ (K : FuncId) (cap : Array Value), fv = .func (.func K) #[] cap ∧ (∀ args w, (callFunc K args).run Tryz.prog w = .ok (.enter K args) w) ∧
  ∀ (W : World) (S : Nat → Prop) (t : Tr Nd) (v : Value), Below w.heap.size w W → TrS S W t v → Val t → (flat t).length ≤ B → Calls Tryz.prog K (#[v] ++ cap) W (OutR S W (F t))
theorem Gives.below {B : Nat} {w w' : World} {fv : Value} {F : Tr Nd → Rz} (h : Gives B w fv F) (hb : Below w.heap.size w w') : Gives B w' fv F := by
  obtain ⟨K, cap, h1, h2, h3⟩ := h
  exact ⟨K, cap, h1, h2, fun W S t v hW => h3 W S t v (hb.trans (hW.mono hb.size))⟩
/-- What along makes. -/
def GivesE (B : Nat) (w : World) (F : Tr Nd → Rz) (e : Ending) (w' : World) : Prop := ∃ K cap, e = .returned (.func (.func K) #[] cap) ∧ Gives B w' (.func (.func K) #[] cap) F ∧ Below w.heap.size w w'
theorem evAlong_any (B : Nat) (sl : Value) (p : List St) (w : World) (hp : Sps w sl p) (hps : ∀ s ∈ p, rightS s = true) :
    Calls Tryz.prog 49 #[sl] w (GivesE B w fun t => ofO (alongE p t)) := by
  have eK : ∀ args w, (callFunc 83 args).run Tryz.prog w = .ok (.enter 83 args) w := enters_of Tryz.func83 (by kernel_rfl) rfl
  have hmf : ∀ (fn : Fn) (first cap : Array Value) (w : World), (Instr.makeFunc fn first cap).run Tryz.prog w = .ok (.func fn first cap) w := fun _ _ _ _ => rfl
  have hb := (Below.refl w.heap.size w).alloc (Nat.le_refl _) (.cells #[sl] 32)
  have HB := Lib.hid hb
  have HG : Hid (Gives B (w.alloc (.cells #[sl] 32)) (.func (.func 83) #[] #[.pointer (some ⟨w.heap.size, 0, none⟩)]) fun t => ofO (alongE p t)) := Lib.hid (by
    refine ⟨_, _, rfl, eK, fun W S t v hW h ht _ => ?_⟩
    have hc : (w.alloc (.cells #[sl] 32)).cell? ⟨w.heap.size, 0, none⟩ = some sl := by simp [World.cell?_alloc_new]
    exact alongC_any S p t v sl w.heap.size W ((hW.cell (World.block_lt_of_cell? _ _ hc)).trans hc) ((hp.below hb).below hW) hps h ht)
  obtain ⟨A, c, rfl, -⟩ := hp
  clear hb hps eK
  go_enter Tryz.func49, Tryz.ntmps49
  go_wp2_with fail
  go_ret
  exact ⟨_, _, rfl, HG.out, HB.out⟩
end Go.Proofs.YtdgcdemihalefaaGreatDoor

/-
  Plain words on filters: terms. No program stands here.
-/
namespace Go.Proofs.YtdgcdemihalefaaGreatDoor
namespace Fw
open Go.RowKit Np Rw Vp Pw

/-- A term: what it does, how many parts it has, its name, its text, its number, what is compared with. -/
structure Tm where
  op : Int
  many : Int
  name : List UInt8
  s : List UInt8
  n : Int
  c : Nd
deriving DecidableEq
def zeroC : Nd := ⟨0, 0, [], [], false, 0⟩

end Fw
end Go.Proofs.YtdgcdemihalefaaGreatDoor

/-
  Plain words: the order of values, told of their trees. No program stands here.
-/
namespace Go.Proofs.YtdgcdemihalefaaGreatDoor
namespace Ov
open Go.RowKit Np Rw Vp

/-- The first of two that is not nought. -/
def orI (a b : Int) : Int := if a = 0 then b else a
/-- Which of two rows of texts is less. -/
def cmpNm : List (List UInt8) → List (List UInt8) → Int
  | a :: aa, b :: bb => orI (cmpB a b) (cmpNm aa bb)
  | [], bb => Lib.compareInt 0 bb.length
  | _ :: aa, [] => Lib.compareInt (aa.length + 1 : Nat) 0
abbrev nms (ts : List (Tr Nd)) : List (List UInt8) := ts.map fun t => t.nd.name

mutual
/-- Which of two values is less. -/
def cmpT : Tr Nd → Tr Nd → Int
  | .mk x xs, .mk y ys =>
    orI (Lib.compareInt x.kind y.kind)
      (if x.kind = 3 then cmpN x.s x.neg x.e y.s y.neg y.e
       else if x.kind = 4 then cmpB x.s y.s
       else if x.kind = 5 then cmpTs xs ys
       else if x.kind = 6 then orI (cmpNm (nms xs) (nms ys)) (cmpTs xs ys)
       else 0)
/-- Which of two rows of values is less, part by part; else the shorter one. -/
def cmpTs : List (Tr Nd) → List (Tr Nd) → Int
  | t :: ts, us => match us with
    | [] => 1
    | u :: us => orI (cmpT t u) (cmpTs ts us)
  | [], us => match us with
    | [] => 0
    | _ :: _ => -1
end
theorem cmpT_mk (x y : Nd) (xs ys : List (Tr Nd)) : cmpT (.mk x xs) (.mk y ys) = orI (Lib.compareInt x.kind y.kind) (if x.kind = 3 then cmpN x.s x.neg x.e y.s y.neg y.e else if x.kind = 4 then cmpB x.s y.s else if x.kind = 5 then cmpTs xs ys else if x.kind = 6 then orI (cmpNm (nms xs) (nms ys)) (cmpTs xs ys) else 0) := by rw [cmpT]
theorem cmpTs_cons (t u : Tr Nd) (ts us : List (Tr Nd)) : cmpTs (t :: ts) (u :: us) = orI (cmpT t u) (cmpTs ts us) := by rw [cmpTs]
@[simp] theorem cmpTs_nil : cmpTs [] [] = 0 := by rw [cmpTs]
@[simp] theorem cmpTs_less (u : Tr Nd) (us : List (Tr Nd)) : cmpTs [] (u :: us) = -1 := by rw [cmpTs]
@[simp] theorem cmpTs_more (t : Tr Nd) (ts : List (Tr Nd)) : cmpTs (t :: ts) [] = 1 := by rw [cmpTs]
theorem cmpI_neg (x y : Int) : Lib.compareInt y x = -Lib.compareInt x y := by unfold Lib.compareInt; (repeat' split) <;> omega
theorem cmpB_neg (a b : List UInt8) : cmpB b a = -cmpB a b := by
  rcases cmpB_cases a b with h | h | h
  · rw [h, (cmpB_gt b a).2 ((cmpB_lt a b).1 h)]; rfl
  · rw [h, (cmpB_eq b a).2 ((cmpB_eq a b).1 h).symm]; rfl
  · rw [h, (cmpB_lt b a).2 ((cmpB_gt a b).1 h)]
theorem orI_neg {a b a' b' : Int} (h : a' = -a) (h2 : b' = -b) : orI a' b' = -orI a b := by unfold orI; split <;> split <;> omega
@[simp] theorem orI_z (b : Int) : orI 0 b = b := by simp [orI]
@[simp] theorem orI_r (a : Int) : orI a 0 = a := by unfold orI; split <;> omega
theorem orI_ne {a b : Int} (h : a ≠ 0) : orI a b = a := by simp [orI, h]
theorem cmpNm_nil : cmpNm [] [] = 0 := by simp [cmpNm, Lib.compareInt]
theorem cmpNm_less (b : List UInt8) (bb : List (List UInt8)) : cmpNm [] (b :: bb) = -1 := by simp only [cmpNm]; exact (cmpI_lt _ _).2 (by simp)
theorem cmpNm_more (a : List UInt8) (aa : List (List UInt8)) : cmpNm (a :: aa) [] = 1 := by simp only [cmpNm]; exact (cmpI_gt _ _).2 (by omega)
theorem cmpNm_cons (a b : List UInt8) (aa bb : List (List UInt8)) : cmpNm (a :: aa) (b :: bb) = orI (cmpB a b) (cmpNm aa bb) := by rw [cmpNm]
theorem cmpNm_neg : ∀ aa bb : List (List UInt8), cmpNm bb aa = -cmpNm aa bb
  | [], [] => by simp [cmpNm_nil]
  | [], b :: bb => by simp [cmpNm_less, cmpNm_more]
  | a :: aa, [] => by simp [cmpNm_less, cmpNm_more]
  | a :: aa, b :: bb => by rw [cmpNm_cons, cmpNm_cons]; exact orI_neg (cmpB_neg a b) (cmpNm_neg aa bb)
/-- Of two kinds that are the same. -/
theorem cmpT_kind {t u : Tr Nd} (h : t.nd.kind ≠ u.nd.kind) : cmpT t u = Lib.compareInt t.nd.kind u.nd.kind := by
  cases t with | mk x xs => cases u with | mk y ys =>
    rw [cmpT_mk, orI_ne (a := Lib.compareInt x.kind y.kind) (fun e => h ((cmpI_eq _ _).1 e))]; rfl
theorem cmpT_same {t u : Tr Nd} (h : t.nd.kind = u.nd.kind) : cmpT t u = (if t.nd.kind = 3 then cmpN t.nd.s t.nd.neg t.nd.e u.nd.s u.nd.neg u.nd.e else if t.nd.kind = 4 then cmpB t.nd.s u.nd.s else if t.nd.kind = 5 then cmpTs t.ks u.ks else if t.nd.kind = 6 then orI (cmpNm (nms t.ks) (nms u.ks)) (cmpTs t.ks u.ks) else 0) := by
  cases t with | mk x xs => cases u with | mk y ys =>
    rw [cmpT_mk, show Lib.compareInt x.kind y.kind = 0 from (cmpI_eq _ _).2 h, orI_z]; rfl
mutual
theorem cmpT_neg : ∀ t u : Tr Nd, cmpT u t = -cmpT t u
  | .mk x xs, .mk y ys => by
    rw [cmpT_mk, cmpT_mk]
    by_cases h : x.kind = y.kind
    · refine orI_neg (cmpI_neg _ _) ?_
      rw [h]
      split
      · exact cmpN_neg _ _ _ _ _ _
      · split
        · exact cmpB_neg _ _
        · split
          · exact cmpTs_neg xs ys
          · split
            · exact orI_neg (cmpNm_neg _ _) (cmpTs_neg xs ys)
            · rfl
    · rw [orI_ne (fun e => h ((cmpI_eq _ _).1 e).symm), orI_ne (fun e => h ((cmpI_eq _ _).1 e))]
      exact cmpI_neg _ _
theorem cmpTs_neg : ∀ ts us : List (Tr Nd), cmpTs us ts = -cmpTs ts us
  | [], [] => by simp
  | [], u :: us => by simp
  | t :: ts, [] => by simp
  | t :: ts, u :: us => by rw [cmpTs_cons, cmpTs_cons]; exact orI_neg (cmpT_neg t u) (cmpTs_neg ts us)
end
/-- What three answers ask of one another. -/
def Tri (x y z : Int) : Prop := x ≤ 0 → y ≤ 0 → z ≤ 0 ∧ (z = 0 → x = 0 ∧ y = 0)
theorem Tri.or {a b c a' b' c' : Int} (h : Tri a b c) (h' : a = 0 → b = 0 → c = 0 → Tri a' b' c') : Tri (orI a a') (orI b b') (orI c c') := by
  intro h1 h2
  have ha : a ≤ 0 := by unfold orI at h1; split at h1 <;> omega
  have hb : b ≤ 0 := by unfold orI at h2; split at h2 <;> omega
  obtain ⟨h3, h4⟩ := h ha hb
  by_cases hc : c = 0
  · obtain ⟨e1, e2⟩ := h4 hc
    subst e1 e2 hc
    rw [orI_z] at h1 h2 ⊢
    rw [orI_z, orI_z]
    exact h' rfl rfl rfl h1 h2
  · rw [orI_ne hc]
    exact ⟨h3, fun e => absurd e hc⟩
theorem cmpT_refl (t : Tr Nd) : cmpT t t = 0 := by have := cmpT_neg t t; omega
theorem Parts.cons {t : Tr Nd} {ts : List (Tr Nd)} (h : Parts (t :: ts)) : (okT many t ∧ rightT t = true) ∧ Parts ts := ⟨h t (by simp), fun u hu => h u (by simp [hu])⟩
end Ov
end Go.Proofs.YtdgcdemihalefaaGreatDoor

/-
  Plain words: places sorted by a comparison, halves merged; the groups of what is the same. No program stands here.
-/
namespace Go.Proofs.YtdgcdemihalefaaGreatDoor
namespace Ov
open Go.RowKit Np Rw Vp

/-- A comparison that is an order. -/
structure Cp (c : Nat → Nat → Int) : Prop where
  neg : ∀ i k, c k i = -c i k
  tri : ∀ i j k, Tri (c i j) (c j k) (c i k)
theorem Cp.refl {c : Nat → Nat → Int} (h : Cp c) (i : Nat) : c i i = 0 := by have := h.neg i i; omega
/-- What stands ahead of what. -/
def Bf (c : Nat → Nat → Int) (i k : Nat) : Prop := c i k < 0 ∨ c i k = 0 ∧ i < k
instance (c : Nat → Nat → Int) (i k : Nat) : Decidable (Bf c i k) := by unfold Bf; infer_instance
theorem Bf.trans {c : Nat → Nat → Int} (h : Cp c) {i j k : Nat} (h1 : Bf c i j) (h2 : Bf c j k) : Bf c i k := by
  have := h.tri i j k
  unfold Bf Tri at *
  omega
/-- Do keys rise? -/
def rise (c : Nat → Nat → Int) (n : Nat) : Bool := (List.range (n - 1)).all fun i => decide (c i (i + 1) ≤ 0)
/-- How many stand ahead of one. -/
def cnt (c : Nat → Nat → Int) (n i : Nat) : Nat := (List.range n).countP fun k => decide (Bf c k i)
/-! Groups. -/
end Ov
end Go.Proofs.YtdgcdemihalefaaGreatDoor

/-
  Plain words: an object hangs on no order of its names and parts; with a name twice there is none; what it is, as a tree. No program stands here.
-/
namespace Go.Proofs.YtdgcdemihalefaaGreatDoor
open Go.RowKit Np Rw Vp

theorem objB_iff {names : List (List UInt8)} {L : List (List Nd)} : objB names L = true ↔ names.length = L.length ∧ names.Nodup ∧ ∀ s ∈ names, vld s = true := by
  simp [objB, okNames]
namespace Vp
end Vp
end Go.Proofs.YtdgcdemihalefaaGreatDoor
