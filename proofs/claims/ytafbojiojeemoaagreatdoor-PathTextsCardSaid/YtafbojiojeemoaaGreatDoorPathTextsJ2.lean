/-
  Joined: FindP, TreeP, PaP, QUtf, Pa1, ObjP2, BackP.
-/
import Derived.Test.YtafbojiojeemoaaGreatDoorValP2
import Derived.Test.YtafbojiojeemoaaGreatDoorPathTextsJ1
import Derived.Test.YtafbojiojeemoaaGreatDoorQEsc
import Derived.Test.YtafbojiojeemoaaGreatDoorMem

/-
  Plain words: where an object's part of a name stands, by a walk along its parts. No program stands here.
-/
namespace Go.Proofs.YtafbojiojeemoaaGreatDoor
namespace Vp
open Go.RowKit Np Rw

/-- Where the part of that name begins, and where it ends; both the place where it would stand. -/
def findK (nm : List UInt8) : Nat → List (Tr Nd) → Nat × Nat
  | p, [] => (p, p)
  | p, t :: ts => if t.nd.name = nm then (p, p + (flat t).length) else if nm < t.nd.name then (p, p) else findK nm (p + (flat t).length) ts
def passes (nm : List UInt8) (t : Tr Nd) : Prop := t.nd.name ≠ nm ∧ ¬ nm < t.nd.name
theorem findK_pass {nm : List UInt8} : ∀ (ts us : List (Tr Nd)) (p : Nat), (∀ t ∈ ts, passes nm t) → findK nm p (ts ++ us) = findK nm (p + (flats ts).length) us
  | [], us, p, _ => by simp
  | t :: ts, us, p, h => by
    have h1 := h t (by simp)
    rw [List.cons_append, findK, if_neg h1.1, if_neg h1.2, findK_pass ts us _ (fun x hx => h x (by simp [hx])), flats_cons, List.length_append, Nat.add_assoc]
theorem findK_all {nm : List UInt8} {ts : List (Tr Nd)} {p : Nat} (h : ∀ t ∈ ts, passes nm t) : findK nm p ts = (p + (flats ts).length, p + (flats ts).length) := by
  have := findK_pass ts [] p h
  rw [List.append_nil] at this
  rw [this, findK]
theorem findK_hit {nm : List UInt8} {ts us : List (Tr Nd)} {t : Tr Nd} {p : Nat} (h : ∀ t ∈ ts, passes nm t) (ht : t.nd.name = nm) : findK nm p (ts ++ t :: us) = (p + (flats ts).length, p + (flats ts).length + (flat t).length) := by
  rw [findK_pass ts _ p h, findK, if_pos ht]
theorem findK_over {nm : List UInt8} {ts us : List (Tr Nd)} {t : Tr Nd} {p : Nat} (h : ∀ t ∈ ts, passes nm t) (ht : nm < t.nd.name) : findK nm p (ts ++ t :: us) = (p + (flats ts).length, p + (flats ts).length) := by
  rw [findK_pass ts _ p h, findK, if_neg (fun e => by rw [e] at ht; exact List.lt_irrefl _ ht), if_pos ht]
end Vp
end Go.Proofs.YtafbojiojeemoaaGreatDoor

/-
  Plain words: objects as trees: parts by their names; one with another part, or without one; what is right of them. No program stands here.
-/
namespace Go.Proofs.YtafbojiojeemoaaGreatDoor
namespace Vp
open Go.RowKit Np Rw

def nmN (nm : List UInt8) (n : Nd) : Nd := { n with name := nm }
def nmd (nm : List UInt8) (t : Tr Nd) : Tr Nd := .mk (nmN nm t.nd) t.ks
theorem nmd_nd (nm : List UInt8) (t : Tr Nd) : (nmd nm t).nd = nmN nm t.nd := rfl
theorem nmd_name (nm : List UInt8) (t : Tr Nd) : (nmd nm t).nd.name = nm := rfl
theorem nmd_ks (nm : List UInt8) (t : Tr Nd) : (nmd nm t).ks = t.ks := rfl
theorem nmd_self (t : Tr Nd) : nmd t.nd.name t = t := by cases t; rfl
theorem nmd_nmd (a b : List UInt8) (t : Tr Nd) : nmd a (nmd b t) = nmd a t := rfl
theorem flat_nmd (nm : List UInt8) (t : Tr Nd) : flat (nmd nm t) = setNm nm (flat t) := by rw [nmd, flat_mk, flat_eq t]; rfl
theorem flat_nmd_len (nm : List UInt8) (t : Tr Nd) : (flat (nmd nm t)).length = (flat t).length := by rw [flat_nmd, setNm_len]
theorem plainN_nm (nm : List UInt8) (n : Nd) : plainN (nmN nm n) = plainN n := by unfold plainN nmN; rfl
theorem okT_nmd {nm : List UInt8} {t : Tr Nd} (h : okT many t) : okT many (nmd nm t) := okT_mk.2 (okT_eq.1 h)
theorem rightT_nmd (nm : List UInt8) (t : Tr Nd) : rightT (nmd nm t) = rightT t := by rw [nmd, rightT_mk, rightT_eq, plainN_nm]; rfl
theorem Val.clr {u : Tr Nd} (h1 : okT many u) (h2 : rightT u = true) : Val (nmd [] u) := ⟨okT_nmd h1, by rw [rightT_nmd]; exact h2, rfl⟩
theorem nmd_val {t : Tr Nd} (h : Val t) (nm : List UInt8) : nmd [] (nmd nm t) = t := by
  rw [nmd_nmd]; conv => rhs; rw [← nmd_self t, h.nm]

/-- Names that rise, of parts. -/
def Rise (ts : List (Tr Nd)) : Prop := ts.Pairwise (fun a b => a.nd.name < b.nd.name)
def Named (ts : List (Tr Nd)) : Prop := Rise ts ∧ ∀ t ∈ ts, vld t.nd.name = true
theorem nameOk_six (t : Tr Nd) : nameOk 6 t = vld t.nd.name := by simp [nameOk]
theorem rising_named : ∀ ts : List (Tr Nd), rising 6 ts = true ↔ Named ts
  | [] => by simp [rising, Named, Rise]
  | [t] => by simp [rising, Named, Rise, nameOk_six]
  | t :: u :: ts => by
    have ih := rising_named (u :: ts)
    rw [rising, Bool.and_eq_true, Bool.and_eq_true, nameOk_six, ih]
    unfold Named Rise
    rw [List.pairwise_cons (l := u :: ts)]
    constructor
    · rintro ⟨⟨h1, h2⟩, h3, h4⟩
      have h2' : t.nd.name < u.nd.name := by simpa using h2
      refine ⟨⟨fun b hb => ?_, h3⟩, fun x hx => ?_⟩
      · rcases List.mem_cons.1 hb with rfl | hb
        · exact h2'
        · exact List.lt_trans h2' ((List.pairwise_cons.1 h3).1 b hb)
      · rcases List.mem_cons.1 hx with rfl | hx
        · exact h1
        · exact h4 x hx
    · rintro ⟨⟨h1, h2⟩, h3⟩
      exact ⟨⟨h3 t (by simp), by simpa using h1 u (by simp)⟩, h2, fun x hx => h3 x (by simp [hx])⟩

theorem plainN_hd (n : Nat) : plainN (hdN 6 n) = true := by simp [plainN, hdN]
theorem plainN_hd5 (n : Nat) : plainN (hdN 5 n) = true := by simp [plainN, hdN]
def Parts (ts : List (Tr Nd)) : Prop := ∀ t ∈ ts, okT many t ∧ rightT t = true
/-- An object of named parts. -/
def objT (ts : List (Tr Nd)) : Tr Nd := .mk (hdN 6 ts.length) ts
def arrT (ts : List (Tr Nd)) : Tr Nd := .mk (hdN 5 ts.length) ts
theorem flat_objT (ts : List (Tr Nd)) : flat (objT ts) = hdN 6 ts.length :: flats ts := flat_mk _ _
theorem flat_arrT (ts : List (Tr Nd)) : flat (arrT ts) = hdN 5 ts.length :: flats ts := flat_mk _ _
theorem val_objT {ts : List (Tr Nd)} (hp : Parts ts) (hn : Named ts) : Val (objT ts) := by
  refine ⟨okT_mk.2 ⟨rfl, okTs_all.2 fun t ht => (hp t ht).1⟩, ?_, rfl⟩
  rw [objT, rightT_mk, plainN_hd, Bool.true_and]
  show rightKs 6 false [] ts = true
  rw [rightKs_obj, (rising_named ts).2 hn, Bool.true_and, List.all_eq_true]
  exact fun t ht => (hp t ht).2
theorem rising_five : ∀ ts : List (Tr Nd), (∀ t ∈ ts, t.nd.name = []) → rising 5 ts = true
  | [], _ => rfl
  | [t], h => by rw [rising, nameOk, h t (by simp)]; rfl
  | t :: u :: ts, h => by
    rw [rising, nameOk, h t (by simp), rising_five (u :: ts) (fun x hx => h x (by simp [hx]))]; rfl
theorem five_rising : ∀ ts : List (Tr Nd), rising 5 ts = true → ∀ t ∈ ts, t.nd.name = []
  | [], _, t, ht => by simp at ht
  | [u], h, t, ht => by
    simp at ht; subst ht
    simp [rising, nameOk] at h; exact h.1
  | u :: x :: ts, h, t, ht => by
    rw [rising, Bool.and_eq_true, Bool.and_eq_true] at h
    rcases List.mem_cons.1 ht with rfl | ht
    · have := h.1.1; simp [nameOk] at this; exact this.1
    · exact five_rising (x :: ts) h.2 t ht
theorem val_arrT {ts : List (Tr Nd)} (hp : ∀ t ∈ ts, Val t) : Val (arrT ts) := by
  refine ⟨okT_mk.2 ⟨rfl, okTs_all.2 fun t ht => (hp t ht).ok⟩, ?_, rfl⟩
  rw [arrT, rightT_mk, plainN_hd5, Bool.true_and]
  show rightKs 5 false [] ts = true
  rw [rightKs_arr, rising_five ts (fun t ht => (hp t ht).nm), Bool.true_and, List.all_eq_true]
  exact fun t ht => (hp t ht).rt
/-- What an object is. -/
theorem Val.parts {t : Tr Nd} (h : Val t) : Parts t.ks := val_kids h
theorem Val.plain {t : Tr Nd} (h : Val t) : plainN t.nd = true := by
  have := h.rt; rw [rightT_eq, Bool.and_eq_true] at this; exact this.1
theorem Val.named {t : Tr Nd} (h : Val t) (hk : t.nd.kind = 6) : Named t.ks := by
  have := h.rt
  rw [rightT_eq, Bool.and_eq_true, hk, rightKs_obj, Bool.and_eq_true] at this
  exact (rising_named _).1 this.2.1
theorem Val.unnamed {t : Tr Nd} (h : Val t) (hk : t.nd.kind = 5) : ∀ u ∈ t.ks, u.nd.name = [] := by
  have := h.rt
  rw [rightT_eq, Bool.and_eq_true, hk, rightKs_arr, Bool.and_eq_true] at this
  exact five_rising _ this.2.1
theorem Val.hd {t : Tr Nd} (h : Val t) (hk : t.nd.kind = 5 ∨ t.nd.kind = 6) : t.nd = hdN t.nd.kind t.ks.length := by
  have h1 := h.plain
  have h2 := (okT_eq.1 h.ok).1
  have h3 := h.nm
  obtain ⟨⟨k, m, nm, s, g, e⟩, ks⟩ := t
  simp only [Tr.nd_mk, Tr.ks_mk] at *
  unfold plainN at h1
  simp only at h1 h2 h3
  rw [if_neg (by omega), if_neg (by omega), if_neg (by omega), if_pos hk] at h1
  simp at h1
  obtain ⟨⟨⟨h4, h5⟩, h6⟩, h7⟩ := h1
  have h8 : m = ks.length := h2
  subst h3 h5 h6 h7 h8
  rfl
theorem Val.obj {t : Tr Nd} (h : Val t) (hk : t.nd.kind = 6) : t = objT t.ks := by
  have := h.hd (.inr hk)
  rw [hk] at this
  rw [objT, ← this]; exact Tr.eta t
theorem Val.arr {t : Tr Nd} (h : Val t) (hk : t.nd.kind = 5) : t = arrT t.ks := by
  have := h.hd (.inl hk)
  rw [hk] at this
  rw [arrT, ← this]; exact Tr.eta t
theorem Val.leaf {t : Tr Nd} (h : Val t) (h5 : t.nd.kind ≠ 5) (h6 : t.nd.kind ≠ 6) : t.ks = [] := by
  have h1 := (plainN_many h.plain).2 h5 h6
  have h2 : t.nd.many = t.ks.length := (okT_eq.1 h.ok).1
  exact List.eq_nil_of_length_eq_zero (by omega)

/-- Parts ahead of a name, of it, and behind it. -/
structure Cut (nm : List UInt8) (ts pre mid post : List (Tr Nd)) : Prop where
  all : ts = pre ++ (mid ++ post)
  lo : ∀ u ∈ pre, u.nd.name < nm
  eq : ∀ u ∈ mid, u.nd.name = nm
  one : mid.length ≤ 1
  hi : ∀ u ∈ post, nm < u.nd.name
theorem cut_ex (nm : List UInt8) : ∀ ts : List (Tr Nd), Rise ts → ∃ pre mid post, Cut nm ts pre mid post
  | [], _ => ⟨[], [], [], rfl, by simp, by simp, by simp, by simp⟩
  | t :: ts, h => by
    obtain ⟨h1, h2⟩ := List.pairwise_cons.1 h
    by_cases he : t.nd.name = nm
    · exact ⟨[], [t], ts, rfl, by simp, by simpa using he, by simp, fun u hu => he ▸ h1 u hu⟩
    · by_cases hl : nm < t.nd.name
      · refine ⟨[], [], t :: ts, rfl, by simp, by simp, by simp, fun u hu => ?_⟩
        rcases List.mem_cons.1 hu with rfl | hu
        · exact hl
        · exact List.lt_trans hl (h1 u hu)
      · obtain ⟨pre, mid, post, hc⟩ := cut_ex nm ts h2
        refine ⟨t :: pre, mid, post, by rw [hc.all]; rfl, fun u hu => ?_, hc.eq, hc.one, hc.hi⟩
        rcases List.mem_cons.1 hu with rfl | hu
        · exact lt_of_ne hl he
        · exact hc.lo u hu
theorem Cut.find {nm : List UInt8} {ts pre mid post : List (Tr Nd)} (h : Cut nm ts pre mid post) (p : Nat) : findK nm p ts = (p + (flats pre).length, p + (flats pre).length + (flats mid).length) := by
  have hp : ∀ t ∈ pre, passes nm t := fun t ht => ⟨fun e => List.lt_irrefl _ (e ▸ h.lo t ht), fun h' => List.lt_irrefl _ (List.lt_trans h' (h.lo t ht))⟩
  rw [h.all]
  rcases mid with _ | ⟨m, mid⟩
  · rw [List.nil_append]
    rcases post with _ | ⟨q, post⟩
    · rw [List.append_nil, findK_all hp]; simp
    · rw [findK_over hp (h.hi q (by simp))]; simp
  · have : mid = [] := List.eq_nil_of_length_eq_zero (by have := h.one; simp at this; simp [this])
    subst this
    rw [List.cons_append, findK_hit hp (h.eq m (by simp))]; simp

theorem rise_put {nm : List UInt8} {pre mid post : List (Tr Nd)} (h1 : Rise pre) (h2 : Rise post) (h3 : ∀ u ∈ pre, u.nd.name < nm) (h4 : ∀ u ∈ post, nm < u.nd.name) (h5 : ∀ u ∈ mid, u.nd.name = nm) (h6 : mid.length ≤ 1) : Rise (pre ++ (mid ++ post)) := by
  unfold Rise at *
  rw [List.pairwise_append, List.pairwise_append]
  refine ⟨h1, ⟨?_, h2, fun a ha b hb => by rw [h5 a ha]; exact h4 b hb⟩, fun a ha b hb => ?_⟩
  · rcases mid with _ | ⟨m, mid⟩
    · simp
    · have : mid = [] := List.eq_nil_of_length_eq_zero (by simp at h6; simp [h6])
      subst this; simp
  · rcases List.mem_append.1 hb with hb | hb
    · rw [h5 b hb]; exact h3 a ha
    · exact List.lt_trans (h3 a ha) (h4 b hb)
theorem Rise.split {a b : List (Tr Nd)} (h : Rise (a ++ b)) : Rise a ∧ Rise b := by
  obtain ⟨h1, h2, -⟩ := List.pairwise_append.1 h; exact ⟨h1, h2⟩
theorem Cut.pre_rise {nm : List UInt8} {ts pre mid post : List (Tr Nd)} (h : Cut nm ts pre mid post) (hr : Rise ts) : Rise pre := by rw [h.all] at hr; exact hr.split.1
theorem Cut.post_rise {nm : List UInt8} {ts pre mid post : List (Tr Nd)} (h : Cut nm ts pre mid post) (hr : Rise ts) : Rise post := by rw [h.all] at hr; exact hr.split.2.split.2
/-- A cut is the only one. -/
theorem Cut.uniq {nm : List UInt8} {ts pre mid post pre' mid' post' : List (Tr Nd)} (h : Cut nm ts pre mid post) (h' : Cut nm ts pre' mid' post') : pre = pre' ∧ mid = mid' ∧ post = post' := by
  have key : ∀ {pre mid post : List (Tr Nd)}, Cut nm ts pre mid post → pre = ts.filter (fun u => decide (u.nd.name < nm)) ∧ mid = ts.filter (fun u => decide (u.nd.name = nm)) ∧ post = ts.filter (fun u => decide (nm < u.nd.name)) := by
    intro pre mid post h
    have e1 : ∀ (p : Tr Nd → Bool) (l : List (Tr Nd)), (∀ u ∈ l, p u = true) → l.filter p = l := fun p l h => List.filter_eq_self.2 h
    have e2 : ∀ (p : Tr Nd → Bool) (l : List (Tr Nd)), (∀ u ∈ l, p u = false) → l.filter p = [] := fun p l h => List.filter_eq_nil_iff.2 (fun u hu => by simp [h u hu])
    have hlt : ∀ {a b : List UInt8}, a < b → ¬ b < a := fun h1 h2 => List.lt_irrefl _ (List.lt_trans h1 h2)
    have hne : ∀ {a b : List UInt8}, a < b → ¬ a = b := fun h1 h2 => List.lt_irrefl _ (h2 ▸ h1)
    rw [h.all]
    simp only [List.filter_append]
    refine ⟨?_, ?_, ?_⟩
    · rw [e1 _ pre (fun u hu => by simpa using h.lo u hu), e2 _ mid (fun u hu => by simp [h.eq u hu, List.lt_irrefl]), e2 _ post (fun u hu => by simpa using hlt (h.hi u hu))]; simp
    · rw [e2 _ pre (fun u hu => by simpa using hne (h.lo u hu)), e1 _ mid (fun u hu => by simpa using h.eq u hu), e2 _ post (fun u hu => by simpa using fun e => hne (h.hi u hu) e.symm)]; simp
    · rw [e2 _ pre (fun u hu => by simpa using hlt (h.lo u hu)), e2 _ mid (fun u hu => by simp [h.eq u hu, List.lt_irrefl]), e1 _ post (fun u hu => by simpa using h.hi u hu)]; simp
  obtain ⟨a1, a2, a3⟩ := key h
  obtain ⟨b1, b2, b3⟩ := key h'
  exact ⟨a1.trans b1.symm, a2.trans b2.symm, a3.trans b3.symm⟩
end Vp
end Go.Proofs.YtafbojiojeemoaaGreatDoor

/-
  Plain words: steps and paths; what stands at a path of a tree, and the tree with something else there. No program stands here.
-/
namespace Go.Proofs.YtafbojiojeemoaaGreatDoor
namespace Pw
open Go.RowKit Np Rw Vp

/-- A step: to a part of a list, or to a field. -/
structure St where
  part : Bool
  name : List UInt8
  n : Int
deriving DecidableEq
def rightS (s : St) : Bool := if s.part then decide (s.name = []) && decide (0 ≤ s.n) && decide (s.n ≤ 1000000) else decide (s.n = 0) && vld s.name
def rightP (p : List St) : Bool := p.all rightS && decide (p.length ≤ 20)
def stKind (s : St) : Int := if s.part then 5 else 6
/-- Is the step to the k-th part, of that name? -/
def lead (s : St) (k : Nat) (name : List UInt8) : Bool := if s.part then decide ((k : Int) = s.n) else decide (name = s.name)
/-- The first part that the step is to, by the parts' names. -/
def seekN (s : St) : List (List UInt8) → Nat → Option Nat
  | [], _ => none
  | a :: l, k => if lead s k a then some k else seekN s l (k + 1)
theorem seekN_ge (s : St) : ∀ (l : List (List UInt8)) (k j : Nat), seekN s l k = some j → k ≤ j ∧ j < k + l.length ∧ ∃ a, l[j - k]? = some a ∧ lead s j a = true
  | [], k, j, h => by simp [seekN] at h
  | a :: l, k, j, h => by
    rw [seekN] at h
    split at h
    · injection h with h
      subst h
      exact ⟨Nat.le_refl _, by simp, a, by simp, by assumption⟩
    · obtain ⟨h1, h2, b, h3, h4⟩ := seekN_ge s l (k + 1) j h
      refine ⟨by omega, by rw [List.length_cons]; omega, b, ?_, h4⟩
      rw [show j - k = (j - (k + 1)) + 1 by omega, List.getElem?_cons_succ]
      exact h3
def names (ts : List (Tr Nd)) : List (List UInt8) := ts.map fun t => t.nd.name
/-- The part of a value that a step is to. -/
def kid (s : St) (t : Tr Nd) : Option Nat := if t.nd.kind = stKind s then seekN s (names t.ks) 0 else none
theorem kid_lt {s : St} {t : Tr Nd} {k : Nat} (h : kid s t = some k) : k < t.ks.length ∧ t.nd.kind = stKind s ∧ ∃ u, t.ks[k]? = some u ∧ lead s k u.nd.name = true := by
  unfold kid at h
  split at h
  · rename_i hk
    obtain ⟨-, h2, a, h3, h4⟩ := seekN_ge s _ 0 k h
    have h5 : k < t.ks.length := by simpa [names] using h2
    refine ⟨h5, hk, t.ks[k], List.getElem?_eq_getElem h5, ?_⟩
    rw [Nat.sub_zero, names, List.getElem?_map, List.getElem?_eq_getElem h5] at h3
    injection h3 with h3
    have h6 : t.ks[k].nd.name = a := h3
    rw [h6]; exact h4
  · cases h
/-- What stands at a path. -/
def subP : List St → Tr Nd → Option (Tr Nd)
  | [], t => some t
  | s :: p, t => match kid s t with
    | none => none
    | some k => subP p (t.ks.getD k t)
/-- The error that is told where nothing does: of a step to what can't be asked, of one to what is not there. -/
def errP : List St → Tr Nd → Int
  | [], _ => 0
  | s :: p, t => if t.nd.kind ≠ stKind s then 5 else match kid s t with
    | none => 6
    | some k => errP p (t.ks.getD k t)
theorem errP_iff : ∀ (p : List St) (t : Tr Nd), errP p t = 0 ↔ (subP p t).isSome = true
  | [], t => by simp [errP, subP]
  | s :: p, t => by
    rw [errP, subP]
    by_cases h : t.nd.kind ≠ stKind s
    · rw [if_pos h]
      have : kid s t = none := by unfold kid; rw [if_neg h]
      rw [this]; simp
    · rw [if_neg h]
      cases hk : kid s t with
      | none => simp
      | some k => exact errP_iff p _
/-- The tree with something else there. -/
def setP : List St → Tr Nd → Tr Nd → Tr Nd
  | [], t, x => nmd t.nd.name x
  | s :: p, t, x => match kid s t with
    | none => t
    | some k => .mk t.nd (t.ks.set k (setP p (t.ks.getD k t) x))
theorem setP_name : ∀ (p : List St) (t x : Tr Nd), (setP p t x).nd.name = t.nd.name
  | [], t, x => by rw [setP, nmd_name]
  | s :: p, t, x => by
    rw [setP]
    split
    · rfl
    · rfl
theorem names_set {ts : List (Tr Nd)} {k : Nat} {y u : Tr Nd} (h : ts[k]? = some u) (hn : y.nd.name = u.nd.name) : names (ts.set k y) = names ts := by
  unfold names
  rw [List.map_set]
  apply List.ext_getElem?
  intro i
  rw [List.getElem?_set]
  split
  · rename_i hi
    subst hi
    split
    · rw [List.getElem?_map, h, Option.map_some, hn]
    · rename_i hl
      simp at hl
      rw [List.getElem?_eq_none hl] at h; cases h
  · rfl
theorem kid_set {t u y : Tr Nd} {k : Nat} (h : t.ks[k]? = some u) (hn : y.nd.name = u.nd.name) (s' : St) : kid s' (.mk t.nd (t.ks.set k y)) = kid s' t := by
  show (if t.nd.kind = stKind s' then seekN s' (names (t.ks.set k y)) 0 else none) = (if t.nd.kind = stKind s' then seekN s' (names t.ks) 0 else none)
  rw [names_set h hn]
/-- What is set is got. -/
theorem sub_set : ∀ (p : List St) (t u x : Tr Nd), subP p t = some u → subP p (setP p t x) = some (nmd u.nd.name x)
  | [], t, u, x, h => by
    simp [subP] at h; subst h; rfl
  | s :: p, t, u, x, h => by
    rw [subP] at h
    rw [setP]
    cases hk : kid s t with
    | none => rw [hk] at h; cases h
    | some k =>
      rw [hk] at h
      obtain ⟨hl, -, v, hv, -⟩ := kid_lt hk
      have hg : t.ks.getD k t = v := by simp [List.getD, hv]
      simp only at h ⊢
      rw [hg] at h ⊢
      rw [subP, kid_set hv (setP_name p v x), hk]
      simp only [Tr.ks_mk]
      have : (t.ks.set k (setP p v x)).getD k (.mk t.nd (t.ks.set k (setP p v x))) = setP p v x := by simp [List.getD, hl]
      rw [this]
      exact sub_set p v u x h
/-- It can be set just where something can be got. -/
theorem err_set : ∀ (p : List St) (t x : Tr Nd), errP p t = 0 → errP p (setP p t x) = 0 := by
  intro p t x h
  rw [errP_iff] at h ⊢
  obtain ⟨u, hu⟩ := Option.isSome_iff_exists.1 h
  rw [sub_set p t u x hu]; rfl
/-- Set again as it was, it is as it was. -/
theorem set_back : ∀ (p : List St) (t u x : Tr Nd), subP p t = some u → setP p (setP p t x) (nmd [] u) = t
  | [], t, u, x, h => by
    simp [subP] at h; subst h
    rw [setP, setP, nmd_name]
    rw [show nmd t.nd.name (nmd [] t) = nmd t.nd.name t from by cases t; rfl, nmd_self]
  | s :: p, t, u, x, h => by
    rw [subP] at h
    cases hk : kid s t with
    | none => rw [hk] at h; cases h
    | some k =>
      rw [hk] at h
      obtain ⟨hl, -, v, hv, -⟩ := kid_lt hk
      have hg : t.ks.getD k t = v := by simp [List.getD, hv]
      simp only at h
      rw [hg] at h
      have e1 : setP (s :: p) t x = .mk t.nd (t.ks.set k (setP p v x)) := by
        rw [setP, hk]
        simp only
        rw [hg]
      rw [e1, setP, kid_set hv (setP_name p v x), hk]
      simp only [Tr.ks_mk, Tr.nd_mk]
      have : (t.ks.set k (setP p v x)).getD k (.mk t.nd (t.ks.set k (setP p v x))) = setP p v x := by simp [List.getD, hl]
      rw [this, set_back p v u x h, List.set_set]
      have h9 : t.ks.set k v = t.ks := by
        apply List.ext_getElem?
        intro i
        rw [List.getElem?_set]
        split
        · rename_i hi; subst hi; rw [hv]
        · rfl
      rw [h9, ← Tr.eta]
/-- Of two paths, one behind the other. -/
theorem sub_append : ∀ (p q : List St) (t : Tr Nd), subP (p ++ q) t = (subP p t).bind (subP q)
  | [], q, t => by simp [subP]
  | s :: p, q, t => by
    rw [List.cons_append, subP, subP]
    split
    · rfl
    · exact sub_append p q _
theorem err_append : ∀ (p q : List St) (t : Tr Nd), errP (p ++ q) t = if errP p t = 0 then (match subP p t with | none => 0 | some u => errP q u) else errP p t
  | [], q, t => by simp [errP, subP]
  | s :: p, q, t => by
    rw [List.cons_append, errP, errP, subP]
    by_cases h : t.nd.kind ≠ stKind s
    · rw [if_pos h, if_pos h]; simp
    · rw [if_neg h, if_neg h]
      cases hk : kid s t with
      | none => simp
      | some k => exact err_append p q _
/-- Is neither the beginning of the other one? -/
def apartP : List St → List St → Bool
  | s :: p, s' :: q => if s = s' then apartP p q else true
  | _, _ => false
theorem apart_sym : ∀ p q : List St, apartP p q = apartP q p
  | [], [] => rfl
  | [], _ :: _ => rfl
  | _ :: _, [] => rfl
  | s :: p, s' :: q => by
    rw [apartP, apartP]
    by_cases h : s = s'
    · rw [if_pos h, if_pos h.symm, apart_sym p q]
    · rw [if_neg h, if_neg (fun e => h e.symm)]
theorem apart_take : ∀ (p : List St) (i : Nat), apartP p (p.take i) = false ∧ apartP (p.take i) p = false
  | [], i => by simp [apartP]
  | s :: p, 0 => by simp [apartP]
  | s :: p, i + 1 => by
    rw [List.take_succ_cons, apartP, apartP, if_pos rfl, if_pos rfl]
    exact apart_take p i
/-- Two steps that are not one, both right, lead to two parts. -/
theorem kid_ne {s s' : St} {t : Tr Nd} {k k' : Nat} (hs : rightS s = true) (hs' : rightS s' = true) (hne : s ≠ s') (h : kid s t = some k) (h' : kid s' t = some k') : k ≠ k' := by
  rintro rfl
  obtain ⟨-, hk, u, hu, hl⟩ := kid_lt h
  obtain ⟨-, hk', u', hu', hl'⟩ := kid_lt h'
  rw [hu] at hu'
  injection hu' with hu'
  subst hu'
  obtain ⟨p, nm, n⟩ := s
  obtain ⟨p', nm', n'⟩ := s'
  rw [hk] at hk'
  unfold stKind at hk'
  unfold lead at hl hl'
  unfold rightS at hs hs'
  cases p <;> cases p' <;> simp at hk' hl hl' hs hs'
  · exact hne (by simp [hs.1, hs'.1, ← hl, ← hl'])
  · exact hne (by simp [hs.1.1, hs'.1.1, ← hl, ← hl'])
/-- What stands at a path apart stays. -/
theorem sub_apart : ∀ (p q : List St) (t x : Tr Nd), p.all rightS = true → q.all rightS = true → apartP p q = true → subP q (setP p t x) = subP q t ∧ errP q (setP p t x) = errP q t
  | [], q, t, x, _, _, h => by simp [apartP] at h
  | s :: p, [], t, x, _, _, h => by simp [apartP] at h
  | s :: p, s' :: q, t, x, hp, hq, h => by
    rw [List.all_cons, Bool.and_eq_true] at hp hq
    rw [setP]
    cases hk : kid s t with
    | none => exact ⟨rfl, rfl⟩
    | some k =>
      obtain ⟨hl, hkd, v, hv, -⟩ := kid_lt hk
      have hg : t.ks.getD k t = v := by simp [List.getD, hv]
      simp only
      rw [hg, subP, subP, errP, errP, kid_set hv (setP_name p v x)]
      simp only [Tr.nd_mk, Tr.ks_mk]
      rw [apartP] at h
      by_cases e : s = s'
      · subst e
        rw [if_pos rfl] at h
        rw [hk]
        simp only
        have : (t.ks.set k (setP p v x)).getD k (.mk t.nd (t.ks.set k (setP p v x))) = setP p v x := by simp [List.getD, hl]
        rw [this, hg]
        obtain ⟨h1, h2⟩ := sub_apart p q v x hp.2 hq.2 h
        rw [h1, h2]; exact ⟨rfl, rfl⟩
      · cases hk' : kid s' t with
        | none => exact ⟨rfl, rfl⟩
        | some k' =>
          have hne := kid_ne hp.1 hq.1 e hk hk'
          obtain ⟨hl', -, v', hv', -⟩ := kid_lt hk'
          have h3 : (t.ks.set k (setP p v x)).getD k' (.mk t.nd (t.ks.set k (setP p v x))) = v' := by simp [List.getD, List.getElem?_set_ne hne, hv']
          have h4 : t.ks.getD k' t = v' := by simp [List.getD, hv']
          simp only
          rw [h3, h4]; exact ⟨rfl, rfl⟩
/-- What is set at two paths apart is the same in either order. -/
theorem set_comm : ∀ (p q : List St) (t x y : Tr Nd), p.all rightS = true → q.all rightS = true → apartP p q = true → setP q (setP p t x) y = setP p (setP q t y) x
  | [], q, t, x, y, _, _, h => by simp [apartP] at h
  | s :: p, [], t, x, y, _, _, h => by simp [apartP] at h
  | s :: p, s' :: q, t, x, y, hp, hq, h => by
    rw [List.all_cons, Bool.and_eq_true] at hp hq
    rw [apartP] at h
    have e1 : setP (s :: p) t x = match kid s t with | none => t | some k => .mk t.nd (t.ks.set k (setP p (t.ks.getD k t) x)) := by rw [setP]
    have e2 : setP (s' :: q) t y = match kid s' t with | none => t | some k => .mk t.nd (t.ks.set k (setP q (t.ks.getD k t) y)) := by rw [setP]
    cases hk : kid s t with
    | none =>
      have e3 : ∀ k' v' z, t.ks[k']? = some v' → z.nd.name = v'.nd.name → kid s (.mk t.nd (t.ks.set k' z)) = none := fun k' v' z hv hn => by rw [kid_set hv hn, hk]
      rw [hk] at e1
      rw [e1]
      cases hk' : kid s' t with
      | none =>
        rw [hk'] at e2
        rw [e2, e1]
      | some k' =>
        obtain ⟨hl', -, v', hv', -⟩ := kid_lt hk'
        have hg' : t.ks.getD k' t = v' := by simp [List.getD, hv']
        rw [hk'] at e2
        simp only at e2
        rw [e2, hg']
        have := e3 k' v' (setP q v' y) hv' (setP_name q v' y)
        rw [setP, this]
    | some k =>
      obtain ⟨hl, -, v, hv, -⟩ := kid_lt hk
      have hg : t.ks.getD k t = v := by simp [List.getD, hv]
      rw [hk] at e1
      simp only at e1
      rw [hg] at e1
      cases hk' : kid s' t with
      | none =>
        rw [hk'] at e2
        rw [e2, e1]
        rw [setP, kid_set hv (setP_name p v x), hk']
      | some k' =>
        obtain ⟨hl', -, v', hv', -⟩ := kid_lt hk'
        have hg' : t.ks.getD k' t = v' := by simp [List.getD, hv']
        rw [hk'] at e2
        simp only at e2
        rw [hg'] at e2
        rw [e1, e2, setP, kid_set hv (setP_name p v x), hk', setP, kid_set hv' (setP_name q v' y), hk]
        simp only [Tr.nd_mk, Tr.ks_mk]
        by_cases e : s = s'
        · subst e
          rw [if_pos rfl] at h
          rw [hk] at hk'
          injection hk' with hk'
          subst hk'
          rw [hv] at hv'
          injection hv' with hv'
          subst hv'
          have g1 : (t.ks.set k (setP p v x)).getD k (.mk t.nd (t.ks.set k (setP p v x))) = setP p v x := by simp [List.getD, hl]
          have g2 : (t.ks.set k (setP q v y)).getD k (.mk t.nd (t.ks.set k (setP q v y))) = setP q v y := by simp [List.getD, hl]
          rw [g1, g2, List.set_set, List.set_set, set_comm p q v x y hp.2 hq.2 h]
        · have hne := kid_ne hp.1 hq.1 e hk hk'
          have g1 : (t.ks.set k (setP p v x)).getD k' (.mk t.nd (t.ks.set k (setP p v x))) = v' := by simp [List.getD, List.getElem?_set_ne hne, hv']
          have g2 : (t.ks.set k' (setP q v' y)).getD k (.mk t.nd (t.ks.set k' (setP q v' y))) = v := by simp [List.getD, List.getElem?_set_ne (Ne.symm hne), hv]
          rw [g1, g2, List.set_comm _ _ hne]

/-! What is set is a value. -/
theorem rightKs_set {kind : Int} {y : Tr Nd} (hy : rightT y = true) : ∀ (ts : List (Tr Nd)) (b : Bool) (a : List UInt8) (k : Nat) (u : Tr Nd), ts[k]? = some u → y.nd.name = u.nd.name → rightKs kind b a ts = true → rightKs kind b a (ts.set k y) = true
  | [], _, _, k, u, h, _, _ => by simp at h
  | t :: ts, b, a, 0, u, h, hn, hr => by
    simp at h; subst h
    rw [rightKs_cons, Bool.and_eq_true, Bool.and_eq_true] at hr
    rw [List.set_cons_zero, rightKs_cons, hn, hr.1.1, hy, hr.2]; rfl
  | t :: ts, b, a, k + 1, u, h, hn, hr => by
    rw [rightKs_cons, Bool.and_eq_true, Bool.and_eq_true] at hr
    rw [List.set_cons_succ, rightKs_cons, hr.1.1, hr.1.2, rightKs_set hy ts true t.nd.name k u (by simpa using h) hn hr.2]; rfl
theorem rightKs_mem {kind : Int} {v : Tr Nd} : ∀ {ts : List (Tr Nd)} {b : Bool} {a : List UInt8}, v ∈ ts → rightKs kind b a ts = true → rightT v = true
  | t :: ts, b, a, hv, hr => by
    rw [rightKs_cons, Bool.and_eq_true, Bool.and_eq_true] at hr
    rcases List.mem_cons.1 hv with rfl | hv
    · exact hr.1.2
    · exact rightKs_mem hv hr.2
theorem set_right : ∀ (p : List St) (t u x : Tr Nd), subP p t = some u → okT many t → rightT t = true → okT many x → rightT x = true → okT many (setP p t x) ∧ rightT (setP p t x) = true
  | [], t, u, x, _, _, _, ho, hr => ⟨okT_nmd ho, by rw [setP, rightT_nmd]; exact hr⟩
  | s :: p, t, u, x, h, h1, h2, ho, hr => by
    rw [subP] at h
    cases hk : kid s t with
    | none => rw [hk] at h; cases h
    | some k =>
      rw [hk] at h
      obtain ⟨hl, -, v, hv, -⟩ := kid_lt hk
      have hg : t.ks.getD k t = v := by simp [List.getD, hv]
      simp only at h
      rw [hg] at h
      have e1 : setP (s :: p) t x = .mk t.nd (t.ks.set k (setP p v x)) := by
        rw [setP, hk]
        simp only
        rw [hg]
      obtain ⟨o1, o2⟩ := okT_eq.1 h1
      have r1 := h2
      rw [rightT_eq, Bool.and_eq_true] at r1
      have hvm : v ∈ t.ks := List.mem_of_getElem? hv
      have hvr : rightT v = true := rightKs_mem hvm r1.2
      obtain ⟨i1, i2⟩ := set_right p v u x h (okTs_all.1 o2 v hvm) hvr ho hr
      rw [e1]
      refine ⟨okT_mk.2 ⟨by rw [List.length_set]; exact o1, okTs_all.2 fun y hy => ?_⟩, ?_⟩
      · rcases List.mem_or_eq_of_mem_set hy with hy | rfl
        · exact okTs_all.1 o2 y hy
        · exact i1
      · rw [rightT_mk, r1.1, rightKs_set i2 t.ks false [] k v hv (setP_name p v x) r1.2]; rfl
theorem set_val {p : List St} {t u x : Tr Nd} (h : subP p t = some u) (ht : Val t) (hx : Val x) : Val (setP p t x) := by
  obtain ⟨h1, h2⟩ := set_right p t u x h ht.ok ht.rt hx.ok hx.rt
  exact ⟨h1, h2, by rw [setP_name]; exact ht.nm⟩
theorem sub_right : ∀ (p : List St) (t u : Tr Nd), subP p t = some u → okT many t → rightT t = true → okT many u ∧ rightT u = true
  | [], t, u, h, h1, h2 => by simp [subP] at h; subst h; exact ⟨h1, h2⟩
  | s :: p, t, u, h, h1, h2 => by
    rw [subP] at h
    cases hk : kid s t with
    | none => rw [hk] at h; cases h
    | some k =>
      rw [hk] at h
      obtain ⟨hl, -, v, hv, -⟩ := kid_lt hk
      have hg : t.ks.getD k t = v := by simp [List.getD, hv]
      simp only at h
      rw [hg] at h
      rw [rightT_eq, Bool.and_eq_true] at h2
      have hvm : v ∈ t.ks := List.mem_of_getElem? hv
      exact sub_right p v u h (okTs_all.1 (okT_eq.1 h1).2 v hvm) (rightKs_mem hvm h2.2)
theorem sub_val {p : List St} {t u : Tr Nd} (h : subP p t = some u) (ht : Val t) : Val (nmd [] u) := by
  obtain ⟨h1, h2⟩ := sub_right p t u h ht.ok ht.rt
  exact ⟨okT_nmd h1, by rw [rightT_nmd]; exact h2, nmd_name _ _⟩

theorem sub_ok : ∀ (p : List St) (t u : Tr Nd), subP p t = some u → okT many t → okT many u
  | [], t, u, h, h1 => by simp [subP] at h; subst h; exact h1
  | s :: p, t, u, h, h1 => by
    rw [subP] at h
    cases hk : kid s t with
    | none => rw [hk] at h; cases h
    | some k =>
      rw [hk] at h
      obtain ⟨hl, -, v, hv, -⟩ := kid_lt hk
      have hg : t.ks.getD k t = v := by simp [List.getD, hv]
      simp only at h
      rw [hg] at h
      exact sub_ok p v u h (okTs_all.1 (okT_eq.1 h1).2 v (List.mem_of_getElem? hv))

/-! Where it stands in the row. -/
def offP : List St → Tr Nd → Nat
  | [], _ => 0
  | s :: p, t => match kid s t with
    | none => 0
    | some k => 1 + (flats (t.ks.take k)).length + offP p (t.ks.getD k t)
theorem flats_split {ts : List (Tr Nd)} {k : Nat} {v : Tr Nd} (h : ts[k]? = some v) : flats ts = flats (ts.take k) ++ flat v ++ flats (ts.drop (k + 1)) := by
  obtain ⟨h1, h2⟩ := List.getElem?_eq_some_iff.1 h
  conv => lhs; rw [← List.take_append_drop k ts, ← List.getElem_cons_drop h1, h2]
  rw [flats_append, flats_cons, List.append_assoc]
theorem flats_put {ts : List (Tr Nd)} {k : Nat} {v : Tr Nd} (y : Tr Nd) (h : ts[k]? = some v) : flats (ts.set k y) = flats (ts.take k) ++ flat y ++ flats (ts.drop (k + 1)) := by
  obtain ⟨h1, h2⟩ := List.getElem?_eq_some_iff.1 h
  rw [List.set_eq_take_append_cons_drop, if_pos h1, flats_append, flats_cons, List.append_assoc]
theorem row_at : ∀ (p : List St) (t u : Tr Nd), subP p t = some u → ∃ pre post, flat t = pre ++ flat u ++ post ∧ pre.length = offP p t ∧ ∀ x, flat (setP p t x) = pre ++ flat (nmd u.nd.name x) ++ post
  | [], t, u, h => by
    simp [subP] at h; subst h
    exact ⟨[], [], by simp, rfl, fun x => by simp [setP]⟩
  | s :: p, t, u, h => by
    rw [subP] at h
    cases hk : kid s t with
    | none => rw [hk] at h; cases h
    | some k =>
      rw [hk] at h
      obtain ⟨hl, -, v, hv, -⟩ := kid_lt hk
      have hg : t.ks.getD k t = v := by simp [List.getD, hv]
      simp only at h
      rw [hg] at h
      obtain ⟨pre, post, h1, h2, h3⟩ := row_at p v u h
      refine ⟨t.nd :: (flats (t.ks.take k) ++ pre), post ++ flats (t.ks.drop (k + 1)), ?_, ?_, fun x => ?_⟩
      · rw [flat_eq, flats_split hv, h1]; simp
      · rw [offP, hk]
        simp only
        rw [hg, ← h2]; simp; omega
      · have e1 : setP (s :: p) t x = .mk t.nd (t.ks.set k (setP p v x)) := by
          rw [setP, hk]
          simp only
          rw [hg]
        rw [e1, flat_mk, flats_put _ hv, h3 x]; simp
end Pw
end Go.Proofs.YtafbojiojeemoaaGreatDoor

/-
  What quote's Utf is.
-/
namespace Go.Proofs.YtafbojiojeemoaaGreatDoor
open Go.RowKit Np Up Qp

theorem ext_end (s : ByteArray) (k : Nat) : (s.extract k s.size).data.toList = s.data.toList.drop k := by
  have h := Lib.extract_toList s k s.size
  rw [ByteArray.toList_eq] at h
  rw [h, List.take_of_length_le (by simp)]
theorem drop_ne (s : ByteArray) (k : Nat) (h : k < s.size) : s.data.toList.drop k ≠ [] := by
  intro h'; have := congrArg List.length h'; rw [List.length_drop, size_toList, List.length_nil] at this; omega
/-- The rune at a place, and its width. -/
theorem dec_at (s : ByteArray) (k : Nat) : Utf8.decode s k = Lib.decodeL (s.data.toList.drop k) := (Lib.decodeL_drop s k).symm
theorem dec_width (l : List UInt8) (hl : l ≠ []) : 1 ≤ (Lib.decodeL l).2 ∧ (Lib.decodeL l).2 ≤ l.length := ⟨Lib.decodeL_width l, Lib.decodeL_le l hl⟩
theorem dec_good {l : List UInt8} (h : runeN l ≠ 0) : (Lib.decodeL l).2 = runeN l := by
  rcases decode_rune l with ⟨h0, _⟩ | ⟨_, h1, _⟩
  · exact absurd h0 h
  · exact h1

end Go.Proofs.YtafbojiojeemoaaGreatDoor

/-
  What path's small functions answer: past.
-/
namespace Go.Proofs.YtafbojiojeemoaaGreatDoor
open Go.RowKit Np Rw Vp Pw

theorem pskip_bound : ∀ (l : List Nd) (q : Nat) (r : List Nd), skip many l q = some r → q + r.length ≤ l.length := by
  intro l q r h
  obtain ⟨ts, -, h2, rfl⟩ := skip_inv l q r h
  have := flats_len ts
  rw [List.length_append]; omega
theorem pskip_step {n : Nd} {l : List Nd} {q : Nat} {r : List Nd} (h : skip many (n :: l) (q + 1) = some r) : ∃ k : Nat, n.many = k ∧ skip many l (q + k) = some r := by
  rw [skip_cons] at h
  by_cases hn : many n < 0
  · rw [if_pos hn] at h; cases h
  · rw [if_neg hn] at h
    exact ⟨n.many.toNat, by have : 0 ≤ n.many := by unfold many at hn; omega
                            omega, h⟩
set_option maxHeartbeats 1000000 in
theorem ppast_any (v : Value) (l : List Nd) (a m : Nat) (r : List Nd) (w : World) (hv : Nds w v l) (ha : a ≤ l.length) (hs : skip many (l.drop a) 1 = some r) (hl : l.length ≤ 1000000) (hm : m + r.length = l.length) :
    Calls Tryz.prog 79 #[v, .int .i64 a] w fun e w' => e = .returned (.int .i64 m) ∧ w' = w := by
  have h0 : 0 < l.length := by
    have := pskip_bound _ _ _ hs
    rw [List.length_drop] at this
    omega
  obtain ⟨g, o, c, rfl, hc, hcm, hg, hx⟩ := hv.opened h0
  have HX := Lib.hid hx
  have HS0 := Lib.hid hs
  have HM := Lib.hid hm
  clear hx hv hs hm
  unfold maxLen at hcm
  generalize hn : l.length = N at *
  have HN := Lib.hid hn; clear hn
  go_enter Tryz.func79, Tryz.ntmps79
  go_wp2_with fail
  go_loopw [5, 1] (fun mv av wr => ∃ (j q : Nat), j ≤ N ∧ mv = .int .i64 q ∧ av = .int .i64 j ∧ Hid (skip many (l.drop j) q = some r) ∧ wr = w) (fun _ av _ => N - (intOf av).toNat)
  case atStart => exact ⟨a, 1, ha, rfl, rfl, HS0, rfl⟩
  case round =>
    obtain ⟨j, q, hj, rfl, rfl, HS, rfl⟩ := hrel
    have hb := pskip_bound _ _ _ HS.out
    rw [List.length_drop, HN.out] at hb
    rcases Nat.eq_zero_or_pos q with hq | hq
    · subst hq
      have hr : l.drop j = r := by have := HS.out; rw [skip_zero] at this; injection this
      have hjm : j = m := by
        have h1 := congrArg List.length hr
        rw [List.length_drop, HN.out] at h1
        have := HM.out
        omega
      subst hjm
      go_wp2_with fail
      go_ret
      exact ⟨rfl, rfl⟩
    · have hjn : j < N := by omega
      obtain ⟨x, hx⟩ : ∃ x, l[j]? = some x := ⟨_, List.getElem?_eq_getElem (by rw [HN.out]; exact hjn)⟩
      have hd : l.drop j = x :: l.drop (j + 1) := by
        obtain ⟨h1, h2⟩ := List.getElem?_eq_some_iff.1 hx
        rw [← h2, List.getElem_cons_drop]
      obtain ⟨q', rfl⟩ : ∃ q', q = q' + 1 := ⟨q - 1, by omega⟩
      obtain ⟨k, hk, hs2⟩ := pskip_step (hd ▸ HS.out)
      have hb2 := pskip_bound _ _ _ hs2
      rw [List.length_drop, HN.out] at hb2
      have c1 := (HX.out j x hx).nd.c1
      rw [hk] at c1
      have HS2 := Lib.hid hs2
      clear hs2 hd hk hx
      go_wp2_with fail
      refine ⟨⟨j + 1, q' + k, by omega, by congr 1; omega, rfl, HS2, trivial⟩, ?_⟩
      simp [intOf]; omega

/-- A step's value, and its cells. -/
abbrev sta (s : St) : Value := .agg #[.bool s.part, .string ⟨s.name.toArray⟩, .int .i64 s.n]
def spc (s : St) : List Value := [.bool s.part, .string ⟨s.name.toArray⟩, .int .i64 s.n]
theorem spc_len (s : St) : (spc s).length = 3 := rfl
abbrev Sps (w : World) (v : Value) (l : List St) : Prop := Row spc 3 w v l
structure Sp3 (w : World) (g o : Nat) (s : St) : Prop where
  c0 : w.cell? ⟨g, o, none⟩ = some (.bool s.part)
  c1 : w.cell? ⟨g, o + 1, none⟩ = some (.string ⟨s.name.toArray⟩)
  c2 : w.cell? ⟨g, o + 2, none⟩ = some (.int .i64 s.n)
theorem CellsAt.sp {w : World} {g o : Nat} {s : St} (h : CellsAt w g o (spc s)) : Sp3 w g o s := ⟨h 0 _ rfl, h 1 _ rfl, h 2 _ rfl⟩
set_option maxHeartbeats 1000000 in
theorem holder_any (s : St) (w : World) : Calls Tryz.prog 111 #[sta s] w fun e w' => e = .returned (.int .i64 (stKind s)) ∧ Below w.heap.size w w' := by
  obtain ⟨p, nm, n⟩ := s
  have hb := (Below.refl w.heap.size w).alloc (Nat.le_refl _) (.cells #[.bool p, .string ⟨nm.toArray⟩, .int .i64 n] 74)
  cases p with
  | true =>
    go_enter Tryz.func111, Tryz.ntmps111
    go_wp2_with fail
    go_ret
    exact ⟨rfl, hb⟩
  | false =>
    go_enter Tryz.func111, Tryz.ntmps111
    go_wp2_with fail
    go_ret
    exact ⟨rfl, hb⟩
set_option maxHeartbeats 1000000 in
theorem leads_any (s : St) (k : Nat) (name : List UInt8) (w : World) : Calls Tryz.prog 112 #[sta s, .int .i64 k, .string ⟨name.toArray⟩] w fun e w' => e = .returned (.bool (lead s k name)) ∧ Below w.heap.size w w' := by
  obtain ⟨p, nm, n⟩ := s
  have hb := (Below.refl w.heap.size w).alloc (Nat.le_refl _) (.cells #[.bool p, .string ⟨nm.toArray⟩, .int .i64 n] 74)
  cases p with
  | true =>
    have HL : Hid (lead ⟨true, nm, n⟩ k name = ((k : Int) == n)) := Lib.hid (by unfold lead; simp [BEq.beq])
    generalize lead ⟨true, nm, n⟩ k name = b at *
    go_enter Tryz.func112, Tryz.ntmps112
    go_wp2_with fail
    go_ret
    exact ⟨ret_bool HL.out.symm, hb⟩
  | false =>
    have HL : Hid (lead ⟨false, nm, n⟩ k name = (name == nm)) := Lib.hid (by unfold lead; rw [if_neg (by simp), Bool.eq_iff_iff]; simp)
    generalize lead ⟨false, nm, n⟩ k name = b at *
    go_enter Tryz.func112, Tryz.ntmps112
    go_wp2_with fail
    go_ret
    exact ⟨ret_bool HL.out.symm, hb⟩
end Go.Proofs.YtafbojiojeemoaaGreatDoor

/-
  Plain words: an object hangs on no order of its names and parts; with a name twice there is none; what it is, as a tree. No program stands here.
-/
namespace Go.Proofs.YtafbojiojeemoaaGreatDoor
open Go.RowKit Np Rw Vp

theorem srt_perm_self (ps : List Pr) : (srt ps).Perm ps := List.mergeSort_perm ps _
theorem keys_nodup_rises : ∀ (ps : List Pr), ps.Pairwise (fun a b => decide (a.1 ≤ b.1) = true) → (ps.map (·.1)).Nodup → rises ps
  | [], _, _ => List.Pairwise.nil
  | a :: ps, h1, h2 => by
    obtain ⟨h3, h4⟩ := List.pairwise_cons.1 h1
    rw [List.map_cons, List.nodup_cons] at h2
    refine List.pairwise_cons.2 ⟨fun b hb => ?_, keys_nodup_rises ps h4 h2.2⟩
    have h5 : a.1 ≤ b.1 := by simpa using h3 b hb
    exact lt_of_ne (List.not_lt.2 h5) (fun e => h2.1 (by rw [e]; exact List.mem_map_of_mem hb))
theorem srt_rises {ps : List Pr} (h : (ps.map (·.1)).Nodup) : rises (srt ps) := by
  refine keys_nodup_rises _ ?_ (((srt_perm_self ps).map _).nodup_iff.2 h)
  exact List.pairwise_mergeSort
    (fun a b c h1 h2 => by simp only [decide_eq_true_eq] at *; exact List.le_trans h1 h2)
    (fun a b => by
      rcases List.le_total a.1 b.1 with h | h
      · simp [h]
      · simp [h]) ps
theorem srt_perm {ps qs : List Pr} (hp : ps.Perm qs) (h : (ps.map (·.1)).Nodup) : srt ps = srt qs :=
  (srt_of ((srt_perm_self ps).trans hp) (srt_rises h)).symm
theorem zip_keys {names : List (List UInt8)} {L : List (List Nd)} (h : names.length = L.length) : (names.zip L).map (·.1) = names := by
  rw [List.map_fst_zip]; omega
theorem objB_iff {names : List (List UInt8)} {L : List (List Nd)} : objB names L = true ↔ names.length = L.length ∧ names.Nodup ∧ ∀ s ∈ names, vld s = true := by
  simp [objB, okNames]
theorem objB_reverse (names : List (List UInt8)) (L : List (List Nd)) : objB names.reverse L.reverse = objB names L := by
  rw [Bool.eq_iff_iff, objB_iff, objB_iff, (List.reverse_perm names).nodup_iff]
  simp
theorem zip_rev (names : List (List UInt8)) (L : List (List Nd)) (h : names.length = L.length) : names.reverse.zip L.reverse = (names.zip L).reverse := by
  apply List.ext_getElem
  · simp
  · intro i h1 h2
    simp [h]
theorem objV_reverse (names : List (List UInt8)) (L : List (List Nd)) : objV names.reverse L.reverse = objV names L := by
  rw [objV, objV, objB_reverse]
  split
  · rename_i h
    obtain ⟨h1, h2, -⟩ := objB_iff.1 h
    rw [List.length_reverse, ← srt_perm (ps := names.zip L) (qs := names.reverse.zip L.reverse) _ (by rw [zip_keys h1]; exact h2)]
    rw [zip_rev _ _ h1]
    exact (List.reverse_perm _).symm
  · rfl
theorem objE_reverse (names : List (List UInt8)) (L : List (List Nd)) : objE names.reverse L.reverse = objE names L := by rw [objE, objE, objB_reverse]
theorem objE_twice (names : List (List UInt8)) (L : List (List Nd)) (a : List UInt8) (ha : a ∈ names) : objE (names ++ [a]) L = 4 := by
  have : objB (names ++ [a]) L = false := by
    cases h : objB (names ++ [a]) L
    · rfl
    · have h2 := (objB_iff.1 h).2.1
      rw [List.nodup_append] at h2
      exact absurd rfl (h2.2.2 a ha a (by simp))
  rw [objE, this]; rfl
theorem objE_cases (names : List (List UInt8)) (L : List (List Nd)) : objB names L = true ∧ objE names L = 0 ∨ objB names L = false ∧ objE names L = 4 := by
  cases h : objB names L <;> simp [objE, h]
theorem objV_bad {names : List (List UInt8)} {L : List (List Nd)} (h : objB names L = false) : objV names L = [] := by rw [objV, h]; rfl
theorem objV_len {names : List (List UInt8)} {L : List (List Nd)} (h : objB names L = true) : (objV names L).length = 1 + (L.map List.length).sum := by
  rw [objV, if_pos h, List.length_cons, laid_len]
  have h1 := (objB_iff.1 h).1
  rw [((srt_perm_self (names.zip L)).map (fun p : Pr => p.2.length)).sum_nat]
  have : (names.zip L).map (fun p : Pr => p.2.length) = L.map List.length := by
    rw [show (fun p : Pr => p.2.length) = List.length ∘ Prod.snd from rfl, ← List.map_map, List.map_snd_zip (by omega)]
  rw [this]; omega

namespace Vp
theorem laid_trees : ∀ ps : List Pr, (∀ p ∈ ps, rightL p.2 = true) → ∃ us, Parts us ∧ us.map (fun u => u.nd.name) = ps.map (·.1) ∧ laid ps = flats us ∧ us.map (fun u => flat (nmd [] u)) = ps.map (·.2)
  | [], _ => ⟨[], by intro t ht; simp at ht, rfl, rfl, rfl⟩
  | p :: ps, h => by
    obtain ⟨us, h1, h2, h3, h4⟩ := laid_trees ps (fun q hq => h q (by simp [hq]))
    obtain ⟨t, ht, he⟩ := val_of_rightL (h p (by simp))
    refine ⟨nmd p.1 t :: us, ?_, by rw [List.map_cons, List.map_cons, h2]; rfl, by rw [laid_cons, flats_cons, flat_nmd, ← he, h3], by rw [List.map_cons, List.map_cons, h4, nmd_val ht, he]⟩
    intro u hu
    rcases List.mem_cons.1 hu with rfl | hu
    · exact ⟨okT_nmd ht.ok, by rw [rightT_nmd]; exact ht.rt⟩
    · exact h1 u hu
theorem objV_tree {names : List (List UInt8)} {L : List (List Nd)} (h : objB names L = true) (hr : ∀ l ∈ L, rightL l = true) :
    ∃ us, Val (objT us) ∧ flat (objT us) = objV names L ∧ us.length = L.length ∧ us.map (fun u => u.nd.name) = (srt (names.zip L)).map (·.1) ∧ us.map (fun u => flat (nmd [] u)) = (srt (names.zip L)).map (·.2) := by
  obtain ⟨h1, h2, h3⟩ := objB_iff.1 h
  obtain ⟨us, h4, h5, h6, h7⟩ := laid_trees (srt (names.zip L)) (fun p hp => by
    have := (srt_perm_self _).mem_iff.1 hp
    exact hr _ (List.of_mem_zip (a := p.1) (b := p.2) this).2)
  have hl : us.length = L.length := by
    have := congrArg List.length h5
    rw [List.length_map, List.length_map, (srt_perm_self _).length_eq, List.length_zip] at this
    omega
  refine ⟨us, val_objT h4 ⟨?_, ?_⟩, by rw [flat_objT, objV, if_pos h, h6, hl], hl, h5, h7⟩
  · have h8 : (us.map (fun u => u.nd.name)).Pairwise (· < ·) := by
      rw [h5]
      exact List.pairwise_map.2 (srt_rises (by rw [zip_keys h1]; exact h2))
    exact List.pairwise_map.1 h8
  · intro t ht
    have h9 : t.nd.name ∈ us.map (fun u => u.nd.name) := List.mem_map_of_mem (f := fun u : Tr Nd => u.nd.name) ht
    rw [h5] at h9
    obtain ⟨p, hp, he⟩ := List.mem_map.1 h9
    rw [← he]
    have := (srt_perm_self _).mem_iff.1 hp
    exact h3 _ (List.of_mem_zip (a := p.1) (b := p.2) this).1
end Vp
end Go.Proofs.YtafbojiojeemoaaGreatDoor

/-
  Plain words: a list's parts are what it was made of; an object, made of its names and parts, is it; parts are right, and less deep. No program stands here.
-/
namespace Go.Proofs.YtafbojiojeemoaaGreatDoor
namespace Vp
open Go.RowKit Np Rw

theorem setNm_val {t : Tr Nd} (h : Val t) : setNm [] (flat t) = flat t := by rw [← flat_nmd, ← h.nm, nmd_self]
theorem rows_trees : ∀ L : List (List Nd), (∀ l ∈ L, rightL l = true) → ∃ ts : List (Tr Nd), (∀ t ∈ ts, Val t) ∧ L = ts.map flat
  | [], _ => ⟨[], by simp, rfl⟩
  | l :: L, h => by
    obtain ⟨ts, h1, h2⟩ := rows_trees L (fun x hx => h x (by simp [hx]))
    obtain ⟨t, ht, he⟩ := val_of_rightL (h l (by simp))
    exact ⟨t :: ts, by intro x hx; rcases List.mem_cons.1 hx with rfl | hx <;> first | exact ht | exact h1 x hx, by rw [List.map_cons, ← h2, he]⟩
theorem laid_plain : ∀ ts : List (Tr Nd), (∀ t ∈ ts, Val t) → laid ((ts.map flat).map fun l => (([], l) : Pr)) = flats ts
  | [], _ => rfl
  | t :: ts, h => by
    rw [List.map_cons, List.map_cons, laid_cons, laid_plain ts (fun x hx => h x (by simp [hx])), flats_cons]
    rw [setNm_val (h t (by simp))]
theorem list_tree {ts : List (Tr Nd)} (h : ∀ t ∈ ts, Val t) : hdN 5 (ts.map flat).length :: laid ((ts.map flat).map fun l => ([], l)) = flat (arrT ts) := by
  rw [laid_plain ts h, flat_arrT, List.length_map]
theorem nmd_all {ts : List (Tr Nd)} (h : ∀ t ∈ ts, t.nd.name = []) : ts.map (fun k => flat (nmd [] k)) = ts.map flat := by
  apply List.map_congr_left
  intro t ht
  conv => rhs; rw [← nmd_self t, h t ht]
theorem part_val {t k : Tr Nd} (h : Val t) (hk : k ∈ t.ks) : Val (nmd [] k) := Val.clr (h.parts k hk).1 (h.parts k hk).2
theorem depth_nmd (nm : List UInt8) (t : Tr Nd) : depth (nmd nm t) = depth t := by rw [depth_eq, depth_eq t]; rfl
theorem depths_le : ∀ {ts : List (Tr Nd)} {k : Tr Nd}, k ∈ ts → depth k ≤ depths ts
  | t :: ts, k, h => by
    rw [depths_cons]
    rcases List.mem_cons.1 h with rfl | h
    · omega
    · have := depths_le h; omega
theorem Val.cont {t : Tr Nd} (h : Val t) (h0 : t.ks ≠ []) : cont t.nd.kind = true := by
  rcases Classical.em (t.nd.kind = 5) with h5 | h5
  · rw [h5]; rfl
  · rcases Classical.em (t.nd.kind = 6) with h6 | h6
    · rw [h6]; rfl
    · exact absurd (h.leaf h5 h6) h0
theorem part_depth {t k : Tr Nd} (h : Val t) (hk : k ∈ t.ks) : depth (nmd [] k) < depth t := by
  rw [depth_nmd, depth_eq t, if_pos (h.cont (by intro e; rw [e] at hk; cases hk))]
  have := depths_le hk
  omega
theorem laid_named : ∀ ks : List (Tr Nd), laid ((ks.map fun k => k.nd.name).zip (ks.map fun k => flat (nmd [] k))) = flats ks
  | [] => rfl
  | k :: ks => by
    rw [List.map_cons, List.map_cons, List.zip_cons_cons, laid_cons, laid_named ks, flats_cons]
    show setNm k.nd.name (flat (nmd [] k)) ++ _ = _
    rw [← flat_nmd, nmd_nmd, nmd_self]
theorem obj_again {t : Tr Nd} (h : Val t) (hk : t.nd.kind = 6) : objB (t.ks.map fun k => k.nd.name) (t.ks.map fun k => flat (nmd [] k)) = true ∧ objV (t.ks.map fun k => k.nd.name) (t.ks.map fun k => flat (nmd [] k)) = flat t := by
  obtain ⟨h1, h2⟩ := h.named hk
  have hr : (t.ks.map fun k => k.nd.name).Pairwise (· < ·) := List.pairwise_map.2 h1
  have hb : objB (t.ks.map fun k => k.nd.name) (t.ks.map fun k => flat (nmd [] k)) = true := by
    refine objB_iff.2 ⟨by simp, ?_, fun s hs => ?_⟩
    · exact hr.imp (fun {a b} hab (e : a = b) => by subst e; exact List.lt_irrefl a hab)
    · obtain ⟨k, hk', rfl⟩ := List.mem_map.1 hs
      exact h2 k hk'
  refine ⟨hb, ?_⟩
  have hz : rises ((t.ks.map fun k => k.nd.name).zip (t.ks.map fun k => flat (nmd [] k))) := by
    have := List.pairwise_map (f := Prod.fst) (l := (t.ks.map fun k => k.nd.name).zip (t.ks.map fun k => flat (nmd [] k))) (R := (· < ·))
    rw [zip_keys (by simp)] at this
    exact this.1 hr
  rw [objV, if_pos hb, srt_of (List.Perm.refl _) hz, laid_named]
  conv => rhs; rw [h.obj hk, flat_objT]
  rw [List.length_map]
theorem arr_again {t : Tr Nd} (h : Val t) (hk : t.nd.kind = 5) : hdN 5 (t.ks.map fun k => flat (nmd [] k)).length :: laid ((t.ks.map fun k => flat (nmd [] k)).map fun l => ([], l)) = flat t := by
  have hn := h.unnamed hk
  have hv : ∀ k ∈ t.ks, Val k := fun k hk' => ⟨(h.parts k hk').1, (h.parts k hk').2, hn k hk'⟩
  rw [nmd_all hn, list_tree hv, ← h.arr hk]
theorem depth_leaf {t : Tr Nd} (h5 : t.nd.kind ≠ 5) (h6 : t.nd.kind ≠ 6) : depth t = 0 := by
  rw [depth_eq, if_neg]
  simp [cont, h5, h6]
theorem mem_flats : ∀ {ts : List (Tr Nd)} {k : Tr Nd} {n : Nd}, k ∈ ts → n ∈ flat k → n ∈ flats ts
  | t :: ts, k, n, h, hn => by
    rw [flats_cons, List.mem_append]
    rcases List.mem_cons.1 h with rfl | h
    · exact .inl hn
    · exact .inr (mem_flats h hn)
theorem len_flats : ∀ {ts : List (Tr Nd)} {k : Tr Nd}, k ∈ ts → (flat k).length ≤ (flats ts).length
  | t :: ts, k, h => by
    rw [flats_cons, List.length_append]
    rcases List.mem_cons.1 h with rfl | h
    · omega
    · have := len_flats h; omega
theorem sum_flats : ∀ ts : List (Tr Nd), ((ts.map flat).map List.length).sum = (flats ts).length
  | [] => rfl
  | t :: ts => by rw [List.map_cons, List.map_cons, List.sum_cons, sum_flats ts, flats_cons, List.length_append]
end Vp
open Go.RowKit Np Rw in
/-- The names of an object's parts. -/
def namesT (t : Tr Nd) : List (List UInt8) := if t.nd.kind = 6 then t.ks.map (fun k => k.nd.name) else []
end Go.Proofs.YtafbojiojeemoaaGreatDoor
