/-
  Joined: TreeP, PaP, Base, Qm, UtfP, RefW1, NumW1, LenP.
-/
import Derived.Test.YtldioobbfkaebaaGreatDoorEvalHoldsJ1
import Derived.Test.YtldioobbfkaebaaGreatDoorRows
import Derived.WalkKit
import Derived.WalkSpells
import Derived.WalkLawsBesides
import Derived.Lib.Hide
import Derived.Deep.QuietTactic
import Derived.BigQuiet
import Derived.Below
import Derived.BigCall
import Derived.BigGuard
import Derived.RegionTactic
import Derived.OwnWalk
import Derived.Deep.Light
import Derived.Lib.OthersKept
import Derived.Maps.OwnSet
import Derived.Outline
import Derived.Lib.ValidLaws
set_option maxHeartbeats 4000000
set_option maxRecDepth 100000
namespace Go.Proofs.YtldioobbfkaebaaGreatDoor
section
namespace Vp
open Go.RowKit Np Rw
def nmN (nm : List UInt8) (n : Nd) : Nd := { n with name := nm }
def nmd (nm : List UInt8) (t : Tr Nd) : Tr Nd := .mk (nmN nm t.nd) t.ks
theorem nmd_name (nm : List UInt8) (t : Tr Nd) : (nmd nm t).nd.name = nm := rfl
theorem nmd_self (t : Tr Nd) : nmd t.nd.name t = t := by cases t; rfl
theorem nmd_nmd (a b : List UInt8) (t : Tr Nd) : nmd a (nmd b t) = nmd a t := rfl
theorem flat_nmd (nm : List UInt8) (t : Tr Nd) : flat (nmd nm t) = setNm nm (flat t) := by rw [nmd, flat_mk, flat_eq t]; rfl
theorem flat_nmd_len (nm : List UInt8) (t : Tr Nd) : (flat (nmd nm t)).length = (flat t).length := by rw [flat_nmd, setNm_len]
theorem plainN_nm (nm : List UInt8) (n : Nd) : plainN (nmN nm n) = plainN n := by unfold plainN nmN; rfl
theorem okT_nmd {nm : List UInt8} {t : Tr Nd} (h : okT many t) : okT many (nmd nm t) := okT_mk.2 (okT_eq.1 h)
theorem rightT_nmd (nm : List UInt8) (t : Tr Nd) : rightT (nmd nm t) = rightT t := by rw [nmd, rightT_mk, rightT_eq, plainN_nm]; rfl
theorem Val.clr {u : Tr Nd} (h1 : okT many u) (h2 : rightT u = true) : Val (nmd [] u) := ⟨okT_nmd h1, by rw [rightT_nmd]; exact h2, rfl⟩
theorem nmd_val {t : Tr Nd} (h : Val t) (nm : List UInt8) : nmd [] (nmd nm t) = t := by
 rw [nmd_nmd]; conv => rhs; rw [← nmd_self t, h.nm]
def Rise (ts : List (Tr Nd)) : Prop := ts.Pairwise (fun a b => a.nd.name < b.nd.name)
def Named (ts : List (Tr Nd)) : Prop := Rise ts ∧ ∀ t ∈ ts, vld t.nd.name = true
theorem nameOk_six (t : Tr Nd) : nameOk 6 t = vld t.nd.name := by simp [nameOk]
theorem rising_named : ∀ ts : List (Tr Nd), rising 6 ts = true ↔ Named ts
 | [] => by simp [rising, Named, Rise]
 | [t] => by simp [rising, Named, Rise, nameOk_six]
 | t :: u :: ts => by
  have ih := rising_named (u :: ts)
  rw [rising, Bool.and_eq_true, Bool.and_eq_true, nameOk_six, ih]
  unfold Named Rise
  rw [List.pairwise_cons (l := u :: ts)]
  constructor
  ·rintro ⟨⟨h1, h2⟩, h3, h4⟩
   have h2' : t.nd.name < u.nd.name := by simpa using h2
   refine ⟨⟨fun b hb => ?_, h3⟩, fun x hx => ?_⟩
   ·rcases List.mem_cons.1 hb with rfl | hb
    ·exact h2'
    ·exact List.lt_trans h2' ((List.pairwise_cons.1 h3).1 b hb)
   ·rcases List.mem_cons.1 hx with rfl | hx
    ·exact h1
    ·exact h4 x hx
  ·rintro ⟨⟨h1, h2⟩, h3⟩
   exact ⟨⟨h3 t (by simp), by simpa using h1 u (by simp)⟩, h2, fun x hx => h3 x (by simp [hx])⟩
theorem plainN_hd (n : Nat) : plainN (hdN 6 n) = true := by simp [plainN, hdN]
def Parts (ts : List (Tr Nd)) : Prop := ∀ t ∈ ts, okT many t ∧ rightT t = true
def objT (ts : List (Tr Nd)) : Tr Nd := .mk (hdN 6 ts.length) ts
def arrT (ts : List (Tr Nd)) : Tr Nd := .mk (hdN 5 ts.length) ts
theorem flat_objT (ts : List (Tr Nd)) : flat (objT ts) = hdN 6 ts.length :: flats ts := flat_mk _ _
theorem val_objT {ts : List (Tr Nd)} (hp : Parts ts) (hn : Named ts) : Val (objT ts) := by
 refine ⟨okT_mk.2 ⟨rfl, okTs_all.2 fun t ht => (hp t ht).1⟩, ?_, rfl⟩
 rw [objT, rightT_mk, plainN_hd, Bool.true_and]
 show rightKs 6 false [] ts = true
 rw [rightKs_obj, (rising_named ts).2 hn, Bool.true_and, List.all_eq_true]
 exact fun t ht => (hp t ht).2
theorem rising_five : ∀ ts : List (Tr Nd), (∀ t ∈ ts, t.nd.name = []) → rising 5 ts = true
 | [], _ => rfl
 | [t], h => by rw [rising, nameOk, h t (by simp)]; rfl
 | t :: u :: ts, h => by
  rw [rising, nameOk, h t (by simp), rising_five (u :: ts) (fun x hx => h x (by simp [hx]))]; rfl
theorem five_rising : ∀ ts : List (Tr Nd), rising 5 ts = true → ∀ t ∈ ts, t.nd.name = []
 | [], _, t, ht => by simp at ht
 | [u], h, t, ht => by
  simp at ht; subst ht
  simp [rising, nameOk] at h; exact h.1
 | u :: x :: ts, h, t, ht => by
  rw [rising, Bool.and_eq_true, Bool.and_eq_true] at h
  rcases List.mem_cons.1 ht with rfl | ht
  ·have := h.1.1; simp [nameOk] at this; exact this.1
  ·exact five_rising (x :: ts) h.2 t ht
theorem Val.parts {t : Tr Nd} (h : Val t) : Parts t.ks := val_kids h
theorem Val.plain {t : Tr Nd} (h : Val t) : plainN t.nd = true := by
 have := h.rt; rw [rightT_eq, Bool.and_eq_true] at this; exact this.1
theorem Val.named {t : Tr Nd} (h : Val t) (hk : t.nd.kind = 6) : Named t.ks := by
 have := h.rt
 rw [rightT_eq, Bool.and_eq_true, hk, rightKs_obj, Bool.and_eq_true] at this
 exact (rising_named _).1 this.2.1
theorem Val.unnamed {t : Tr Nd} (h : Val t) (hk : t.nd.kind = 5) : ∀ u ∈ t.ks, u.nd.name = [] := by
 have := h.rt
 rw [rightT_eq, Bool.and_eq_true, hk, rightKs_arr, Bool.and_eq_true] at this
 exact five_rising _ this.2.1
theorem Val.hd {t : Tr Nd} (h : Val t) (hk : t.nd.kind = 5 ∨ t.nd.kind = 6) : t.nd = hdN t.nd.kind t.ks.length := by
 have h1 := h.plain
 have h2 := (okT_eq.1 h.ok).1
 have h3 := h.nm
 obtain ⟨⟨k, m, nm, s, g, e⟩, ks⟩ := t
 simp only [Tr.nd_mk, Tr.ks_mk] at *
 unfold plainN at h1
 simp only at h1 h2 h3
 rw [if_neg (by omega), if_neg (by omega), if_neg (by omega), if_pos hk] at h1
 simp at h1
 obtain ⟨⟨⟨h4, h5⟩, h6⟩, h7⟩ := h1
 have h8 : m = ks.length := h2
 subst h3 h5 h6 h7 h8
 rfl
theorem Val.obj {t : Tr Nd} (h : Val t) (hk : t.nd.kind = 6) : t = objT t.ks := by
 have := h.hd (.inr hk)
 rw [hk] at this
 rw [objT, ← this]; exact Tr.eta t
theorem Val.arr {t : Tr Nd} (h : Val t) (hk : t.nd.kind = 5) : t = arrT t.ks := by
 have := h.hd (.inl hk)
 rw [hk] at this
 rw [arrT, ← this]; exact Tr.eta t
theorem Val.leaf {t : Tr Nd} (h : Val t) (h5 : t.nd.kind ≠ 5) (h6 : t.nd.kind ≠ 6) : t.ks = [] := by
 have h1 := (plainN_many h.plain).2 h5 h6
 have h2 : t.nd.many = t.ks.length := (okT_eq.1 h.ok).1
 exact List.eq_nil_of_length_eq_zero (by omega)
structure Cut (nm : List UInt8) (ts pre mid post : List (Tr Nd)) : Prop where
 all : ts = pre ++ (mid ++ post)
 lo : ∀ u ∈ pre, u.nd.name < nm
 eq : ∀ u ∈ mid, u.nd.name = nm
 one : mid.length ≤ 1
 hi : ∀ u ∈ post, nm < u.nd.name
theorem cut_ex (nm : List UInt8) : ∀ ts : List (Tr Nd), Rise ts → ∃ pre mid post, Cut nm ts pre mid post
 | [], _ => ⟨[], [], [], rfl, by simp, by simp, by simp, by simp⟩
 | t :: ts, h => by
  obtain ⟨h1, h2⟩ := List.pairwise_cons.1 h
  by_cases he : t.nd.name = nm
  ·exact ⟨[], [t], ts, rfl, by simp, by simpa using he, by simp, fun u hu => he ▸ h1 u hu⟩
  ·by_cases hl : nm < t.nd.name
   ·refine ⟨[], [], t :: ts, rfl, by simp, by simp, by simp, fun u hu => ?_⟩
    rcases List.mem_cons.1 hu with rfl | hu
    ·exact hl
    ·exact List.lt_trans hl (h1 u hu)
   ·obtain ⟨pre, mid, post, hc⟩ := cut_ex nm ts h2
    refine ⟨t :: pre, mid, post, by rw [hc.all]; rfl, fun u hu => ?_, hc.eq, hc.one, hc.hi⟩
    rcases List.mem_cons.1 hu with rfl | hu
    ·exact lt_of_ne hl he
    ·exact hc.lo u hu
theorem rise_put {nm : List UInt8} {pre mid post : List (Tr Nd)} (h1 : Rise pre) (h2 : Rise post) (h3 : ∀ u ∈ pre, u.nd.name < nm) (h4 : ∀ u ∈ post, nm < u.nd.name) (h5 : ∀ u ∈ mid, u.nd.name = nm) (h6 : mid.length ≤ 1) : Rise (pre ++ (mid ++ post)) := by
 unfold Rise at *
 rw [List.pairwise_append, List.pairwise_append]
 refine ⟨h1, ⟨?_, h2, fun a ha b hb => by rw [h5 a ha]; exact h4 b hb⟩, fun a ha b hb => ?_⟩
 ·rcases mid with _ | ⟨m, mid⟩
  ·simp
  ·have : mid = [] := List.eq_nil_of_length_eq_zero (by simp at h6; simp [h6])
   subst this; simp
 ·rcases List.mem_append.1 hb with hb | hb
  ·rw [h5 b hb]; exact h3 a ha
  ·exact List.lt_trans (h3 a ha) (h4 b hb)
theorem Rise.split {a b : List (Tr Nd)} (h : Rise (a ++ b)) : Rise a ∧ Rise b := by
 obtain ⟨h1, h2, -⟩ := List.pairwise_append.1 h; exact ⟨h1, h2⟩
theorem Cut.pre_rise {nm : List UInt8} {ts pre mid post : List (Tr Nd)} (h : Cut nm ts pre mid post) (hr : Rise ts) : Rise pre := by rw [h.all] at hr; exact hr.split.1
theorem Cut.post_rise {nm : List UInt8} {ts pre mid post : List (Tr Nd)} (h : Cut nm ts pre mid post) (hr : Rise ts) : Rise post := by rw [h.all] at hr; exact hr.split.2.split.2
end Vp
end
section
namespace Pw
open Go.RowKit Np Rw Vp
structure St where
 part : Bool
 name : List UInt8
 n : Int
deriving DecidableEq
def rightS (s : St) : Bool := if s.part then decide (s.name = []) && decide (0 ≤ s.n) && decide (s.n ≤ 1000000) else decide (s.n = 0) && vld s.name
def rightP (p : List St) : Bool := p.all rightS && decide (p.length ≤ 20)
def stKind (s : St) : Int := if s.part then 5 else 6
def lead (s : St) (k : Nat) (name : List UInt8) : Bool := if s.part then decide ((k : Int) = s.n) else decide (name = s.name)
def seekN (s : St) : List (List UInt8) → Nat → Option Nat
 | [], _ => none
 | a :: l, k => if lead s k a then some k else seekN s l (k + 1)
theorem seekN_ge (s : St) : ∀ (l : List (List UInt8)) (k j : Nat), seekN s l k = some j → k ≤ j ∧ j < k + l.length ∧ ∃ a, l[j - k]? = some a ∧ lead s j a = true
 | [], k, j, h => by simp [seekN] at h
 | a :: l, k, j, h => by
  rw [seekN] at h
  split at h
  ·injection h with h
   subst h
   exact ⟨Nat.le_refl _, by simp, a, by simp, by assumption⟩
  ·obtain ⟨h1, h2, b, h3, h4⟩ := seekN_ge s l (k + 1) j h
   refine ⟨by omega, by rw [List.length_cons]; omega, b, ?_, h4⟩
   rw [show j - k = (j - (k + 1)) + 1 by omega, List.getElem?_cons_succ]
   exact h3
def names (ts : List (Tr Nd)) : List (List UInt8) := ts.map fun t => t.nd.name
def kid (s : St) (t : Tr Nd) : Option Nat := if t.nd.kind = stKind s then seekN s (names t.ks) 0 else none
theorem kid_lt {s : St} {t : Tr Nd} {k : Nat} (h : kid s t = some k) : k < t.ks.length ∧ t.nd.kind = stKind s ∧ ∃ u, t.ks[k]? = some u ∧ lead s k u.nd.name = true := by
 unfold kid at h
 split at h
 ·rename_i hk
  obtain ⟨-, h2, a, h3, h4⟩ := seekN_ge s _ 0 k h
  have h5 : k < t.ks.length := by simpa [names] using h2
  refine ⟨h5, hk, t.ks[k], List.getElem?_eq_getElem h5, ?_⟩
  rw [Nat.sub_zero, names, List.getElem?_map, List.getElem?_eq_getElem h5] at h3
  injection h3 with h3
  have h6 : t.ks[k].nd.name = a := h3
  rw [h6]; exact h4
 ·cases h
def subP : List St → Tr Nd → Option (Tr Nd)
 | [], t => some t
 | s :: p, t => match kid s t with
  | none => none
  | some k => subP p (t.ks.getD k t)
def errP : List St → Tr Nd → Int
 | [], _ => 0
 | s :: p, t => if t.nd.kind ≠ stKind s then 5 else match kid s t with
  | none => 6
  | some k => errP p (t.ks.getD k t)
theorem errP_iff : ∀ (p : List St) (t : Tr Nd), errP p t = 0 ↔ (subP p t).isSome = true
 | [], t => by simp [errP, subP]
 | s :: p, t => by
  rw [errP, subP]
  by_cases h : t.nd.kind ≠ stKind s
  ·rw [if_pos h]
   have : kid s t = none := by unfold kid; rw [if_neg h]
   rw [this]; simp
  ·rw [if_neg h]
   cases hk : kid s t with
   | none => simp
   | some k => exact errP_iff p _
def setP : List St → Tr Nd → Tr Nd → Tr Nd
 | [], t, x => nmd t.nd.name x
 | s :: p, t, x => match kid s t with
  | none => t
  | some k => .mk t.nd (t.ks.set k (setP p (t.ks.getD k t) x))
theorem setP_name : ∀ (p : List St) (t x : Tr Nd), (setP p t x).nd.name = t.nd.name
 | [], t, x => by rw [setP, nmd_name]
 | s :: p, t, x => by
  rw [setP]
  split
  ·rfl
  ·rfl
theorem sub_append : ∀ (p q : List St) (t : Tr Nd), subP (p ++ q) t = (subP p t).bind (subP q)
 | [], q, t => by simp [subP]
 | s :: p, q, t => by
  rw [List.cons_append, subP, subP]
  split
  ·rfl
  ·exact sub_append p q _
theorem err_append : ∀ (p q : List St) (t : Tr Nd), errP (p ++ q) t = if errP p t = 0 then (match subP p t with | none => 0 | some u => errP q u) else errP p t
 | [], q, t => by simp [errP, subP]
 | s :: p, q, t => by
  rw [List.cons_append, errP, errP, subP]
  by_cases h : t.nd.kind ≠ stKind s
  ·rw [if_pos h, if_pos h]; simp
  ·rw [if_neg h, if_neg h]
   cases hk : kid s t with
   | none => simp
   | some k => exact err_append p q _
theorem rightKs_set {kind : Int} {y : Tr Nd} (hy : rightT y = true) : ∀ (ts : List (Tr Nd)) (b : Bool) (a : List UInt8) (k : Nat) (u : Tr Nd), ts[k]? = some u → y.nd.name = u.nd.name → rightKs kind b a ts = true → rightKs kind b a (ts.set k y) = true
 | [], _, _, k, u, h, _, _ => by simp at h
 | t :: ts, b, a, 0, u, h, hn, hr => by
  simp at h; subst h
  rw [rightKs_cons, Bool.and_eq_true, Bool.and_eq_true] at hr
  rw [List.set_cons_zero, rightKs_cons, hn, hr.1.1, hy, hr.2]; rfl
 | t :: ts, b, a, k + 1, u, h, hn, hr => by
  rw [rightKs_cons, Bool.and_eq_true, Bool.and_eq_true] at hr
  rw [List.set_cons_succ, rightKs_cons, hr.1.1, hr.1.2, rightKs_set hy ts true t.nd.name k u (by simpa using h) hn hr.2]; rfl
theorem rightKs_mem {kind : Int} {v : Tr Nd} : ∀ {ts : List (Tr Nd)} {b : Bool} {a : List UInt8}, v ∈ ts → rightKs kind b a ts = true → rightT v = true
 | t :: ts, b, a, hv, hr => by
  rw [rightKs_cons, Bool.and_eq_true, Bool.and_eq_true] at hr
  rcases List.mem_cons.1 hv with rfl | hv
  ·exact hr.1.2
  ·exact rightKs_mem hv hr.2
theorem set_right : ∀ (p : List St) (t u x : Tr Nd), subP p t = some u → okT many t → rightT t = true → okT many x → rightT x = true → okT many (setP p t x) ∧ rightT (setP p t x) = true
 | [], t, u, x, _, _, _, ho, hr => ⟨okT_nmd ho, by rw [setP, rightT_nmd]; exact hr⟩
 | s :: p, t, u, x, h, h1, h2, ho, hr => by
  rw [subP] at h
  cases hk : kid s t with
  | none => rw [hk] at h; cases h
  | some k =>
   rw [hk] at h
   obtain ⟨hl, -, v, hv, -⟩ := kid_lt hk
   have hg : t.ks.getD k t = v := by simp [List.getD, hv]
   simp only at h
   rw [hg] at h
   have e1 : setP (s :: p) t x = .mk t.nd (t.ks.set k (setP p v x)) := by
    rw [setP, hk]
    simp only
    rw [hg]
   obtain ⟨o1, o2⟩ := okT_eq.1 h1
   have r1 := h2
   rw [rightT_eq, Bool.and_eq_true] at r1
   have hvm : v ∈ t.ks := List.mem_of_getElem? hv
   have hvr : rightT v = true := rightKs_mem hvm r1.2
   obtain ⟨i1, i2⟩ := set_right p v u x h (okTs_all.1 o2 v hvm) hvr ho hr
   rw [e1]
   refine ⟨okT_mk.2 ⟨by rw [List.length_set]; exact o1, okTs_all.2 fun y hy => ?_⟩, ?_⟩
   ·rcases List.mem_or_eq_of_mem_set hy with hy | rfl
    ·exact okTs_all.1 o2 y hy
    ·exact i1
   ·rw [rightT_mk, r1.1, rightKs_set i2 t.ks false [] k v hv (setP_name p v x) r1.2]; rfl
theorem set_val {p : List St} {t u x : Tr Nd} (h : subP p t = some u) (ht : Val t) (hx : Val x) : Val (setP p t x) := by
 obtain ⟨h1, h2⟩ := set_right p t u x h ht.ok ht.rt hx.ok hx.rt
 exact ⟨h1, h2, by rw [setP_name]; exact ht.nm⟩
theorem sub_right : ∀ (p : List St) (t u : Tr Nd), subP p t = some u → okT many t → rightT t = true → okT many u ∧ rightT u = true
 | [], t, u, h, h1, h2 => by simp [subP] at h; subst h; exact ⟨h1, h2⟩
 | s :: p, t, u, h, h1, h2 => by
  rw [subP] at h
  cases hk : kid s t with
  | none => rw [hk] at h; cases h
  | some k =>
   rw [hk] at h
   obtain ⟨hl, -, v, hv, -⟩ := kid_lt hk
   have hg : t.ks.getD k t = v := by simp [List.getD, hv]
   simp only at h
   rw [hg] at h
   rw [rightT_eq, Bool.and_eq_true] at h2
   have hvm : v ∈ t.ks := List.mem_of_getElem? hv
   exact sub_right p v u h (okTs_all.1 (okT_eq.1 h1).2 v hvm) (rightKs_mem hvm h2.2)
theorem sub_val {p : List St} {t u : Tr Nd} (h : subP p t = some u) (ht : Val t) : Val (nmd [] u) := by
 obtain ⟨h1, h2⟩ := sub_right p t u h ht.ok ht.rt
 exact ⟨okT_nmd h1, by rw [rightT_nmd]; exact h2, nmd_name _ _⟩
def offP : List St → Tr Nd → Nat
 | [], _ => 0
 | s :: p, t => match kid s t with
  | none => 0
  | some k => 1 + (flats (t.ks.take k)).length + offP p (t.ks.getD k t)
theorem flats_split {ts : List (Tr Nd)} {k : Nat} {v : Tr Nd} (h : ts[k]? = some v) : flats ts = flats (ts.take k) ++ flat v ++ flats (ts.drop (k + 1)) := by
 obtain ⟨h1, h2⟩ := List.getElem?_eq_some_iff.1 h
 conv => lhs; rw [← List.take_append_drop k ts, ← List.getElem_cons_drop h1, h2]
 rw [flats_append, flats_cons, List.append_assoc]
theorem flats_put {ts : List (Tr Nd)} {k : Nat} {v : Tr Nd} (y : Tr Nd) (h : ts[k]? = some v) : flats (ts.set k y) = flats (ts.take k) ++ flat y ++ flats (ts.drop (k + 1)) := by
 obtain ⟨h1, h2⟩ := List.getElem?_eq_some_iff.1 h
 rw [List.set_eq_take_append_cons_drop, if_pos h1, flats_append, flats_cons, List.append_assoc]
theorem row_at : ∀ (p : List St) (t u : Tr Nd), subP p t = some u → ∃ pre post, flat t = pre ++ flat u ++ post ∧ pre.length = offP p t ∧ ∀ x, flat (setP p t x) = pre ++ flat (nmd u.nd.name x) ++ post
 | [], t, u, h => by
  simp [subP] at h; subst h
  exact ⟨[], [], by simp, rfl, fun x => by simp [setP]⟩
 | s :: p, t, u, h => by
  rw [subP] at h
  cases hk : kid s t with
  | none => rw [hk] at h; cases h
  | some k =>
   rw [hk] at h
   obtain ⟨hl, -, v, hv, -⟩ := kid_lt hk
   have hg : t.ks.getD k t = v := by simp [List.getD, hv]
   simp only at h
   rw [hg] at h
   obtain ⟨pre, post, h1, h2, h3⟩ := row_at p v u h
   refine ⟨t.nd :: (flats (t.ks.take k) ++ pre), post ++ flats (t.ks.drop (k + 1)), ?_, ?_, fun x => ?_⟩
   ·rw [flat_eq, flats_split hv, h1]; simp
   ·rw [offP, hk]
    simp only
    rw [hg, ← h2]; simp; omega
   ·have e1 : setP (s :: p) t x = .mk t.nd (t.ks.set k (setP p v x)) := by
     rw [setP, hk]
     simp only
     rw [hg]
    rw [e1, flat_mk, flats_put _ hv, h3 x]; simp
end Pw
end
section
open Go.RowKit
theorem ret_bool {a b : Bool} (h : a = b) : Ending.returned (.bool a) = .returned (.bool b) := by rw [h]
theorem ret_i64 {a b : Int} (h : a = b) : Ending.returned (.int .i64 a) = .returned (.int .i64 b) := by rw [h]
theorem ret_str {a b : ByteArray} (h : a = b) : Ending.returned (.string a) = .returned (.string b) := by rw [h]
theorem ret_list {a b : List UInt8} (h : a = b) : Ending.returned (.string ⟨a.toArray⟩) = .returned (.string ⟨b.toArray⟩) := by rw [h]
theorem kept_cells {a b : World} (h : Below a.heap.size a b) : (∀ k i, k < a.heap.size → b.cell? ⟨k, i, none⟩ = a.cell? ⟨k, i, none⟩) ∧ (∀ k i, k < a.heap.size → b.frozen? ⟨k, i, none⟩ = a.frozen? ⟨k, i, none⟩) := by
 refine ⟨fun k i hk => ?_, fun k i hk => ?_⟩
 ·exact h.cell (p := ⟨k, i, none⟩) hk
 ·exact h.frozen (p := ⟨k, i, none⟩) hk
theorem drewN_below {B : Nat} {a w : World} (h : Below B a w) (n : Nat) : Below B a (w.drewN n) := ⟨h.os, h.tape, h.output, h.size, h.block⟩
theorem below_quiet {w w' : World} (h : ∃ n, w' = w.drewN n) : Below w.heap.size w w' := by
 obtain ⟨n, rfl⟩ := h
 exact drewN_below (Below.refl _ _) n
theorem Below.after {a b c : World} (h : Below a.heap.size a b) (k : Below b.heap.size b c) : Below a.heap.size a c := h.trans (k.mono h.size)
theorem mk_data (a : List UInt8) : (ByteArray.mk a.toArray).data.toList = a := rfl
theorem mk_size (a : List UInt8) : (ByteArray.mk a.toArray).size = a.length := rfl
theorem any_byte (W : World) (b : Nat) (v : Int) (h : W.cell? ⟨b, 0, none⟩ = some (.int .u8 v)) : (convert 84 9 (.slice (some ⟨b, 0, none⟩) 1 1)).run Tryz.prog W = .ok (.string ⟨#[UInt8.ofNat v.toNat]⟩) W :=
 run_convert_bytes_arg _ 84 5 Tryz.underlying84 Tryz.underlying5 b 0 1 1 [v] rfl (fun i hi => by
  obtain rfl : i = 0 := by omega
  simpa using h) 9 Tryz.underlying9
end
section
open Go.RowKit Np
def Er (w : World) : Prop := ∃ ev, w.cell? ⟨4, 0, none⟩ = some ev ∧ (ev = .nilIface ∨ ∃ te pe, ev = .iface te pe)
theorem Er.below {w w' : World} (h : Er w) (hb : Below w.heap.size w w') : Er w' := by
 obtain ⟨ev, h1, h2⟩ := h
 have hlt := World.block_lt_of_cell? _ _ h1
 exact ⟨ev, (hb.cell (p := ⟨4, 0, none⟩) hlt).trans h1, h2⟩
end
section
namespace Up
open Go.RowKit
def bt (l : List UInt8) (k : Nat) : Nat := (l.getD k 0).toNat
def ct (l : List UInt8) (k : Nat) : Bool := decide (k < l.length) && decide (128 ≤ bt l k) && decide (bt l k < 192)
def runeN (l : List UInt8) : Nat :=
 if bt l 0 < 128 then 1
 else if 194 ≤ bt l 0 ∧ bt l 0 < 224 ∧ ct l 1 = true then 2
 else if 224 ≤ bt l 0 ∧ bt l 0 < 240 ∧ ct l 1 = true ∧ ct l 2 = true then (if bt l 0 = 224 ∧ bt l 1 < 160 ∨ bt l 0 = 237 ∧ 160 ≤ bt l 1 then 0 else 3)
 else if 240 ≤ bt l 0 ∧ bt l 0 < 245 ∧ ct l 1 = true ∧ ct l 2 = true ∧ ct l 3 = true then (if bt l 0 = 240 ∧ bt l 1 < 144 ∨ bt l 0 = 244 ∧ 144 ≤ bt l 1 then 0 else 4)
 else 0
theorem get_bt (l : List UInt8) (k : Nat) : ((ByteArray.mk l.toArray).get! (0 + k)).toNat = bt l k := by
 rw [Nat.zero_add]
 unfold bt
 congr 1
 by_cases h : k < l.length
 ·simp [ByteArray.get!, h]
 ·simp [ByteArray.get!, h]
  rfl
theorem bt_lt (l : List UInt8) (k : Nat) : bt l k < 256 := UInt8.toNat_lt _
theorem ct_iff (l : List UInt8) (k : Nat) : ct l k = true ↔ k < l.length ∧ bt l k / 64 = 2 := by
 simp [ct]; omega
theorem ct_eq (l : List UInt8) (k : Nat) : (decide (k < l.length) && bt l k / 64 == 2) = ct l k := by
 rw [Bool.eq_iff_iff, ct_iff]; simp
theorem decode_eq (l : List UInt8) : Lib.decodeL l =
  (if bt l 0 < 128 then (bt l 0, 1)
  else if (bt l 0 / 32 == 6 && ct l 1) = true then (if (bt l 0 % 32) * 64 + bt l 1 % 64 ≥ 128 then ((bt l 0 % 32) * 64 + bt l 1 % 64, 2) else (65533, 1))
  else if (bt l 0 / 16 == 14 && ct l 1 && ct l 2) = true then (if (decide ((bt l 0 % 16) * 4096 + (bt l 1 % 64) * 64 + bt l 2 % 64 ≥ 2048) && Utf8.valid (((bt l 0 % 16) * 4096 + (bt l 1 % 64) * 64 + bt l 2 % 64 : Nat) : Int)) = true then ((bt l 0 % 16) * 4096 + (bt l 1 % 64) * 64 + bt l 2 % 64, 3) else (65533, 1))
  else if (bt l 0 / 8 == 30 && ct l 1 && ct l 2 && ct l 3) = true then (if (decide ((bt l 0 % 8) * 262144 + (bt l 1 % 64) * 4096 + (bt l 2 % 64) * 64 + bt l 3 % 64 ≥ 65536) && Utf8.valid (((bt l 0 % 8) * 262144 + (bt l 1 % 64) * 4096 + (bt l 2 % 64) * 64 + bt l 3 % 64 : Nat) : Int)) = true then ((bt l 0 % 8) * 262144 + (bt l 1 % 64) * 4096 + (bt l 2 % 64) * 64 + bt l 3 % 64, 4) else (65533, 1))
  else (65533, 1)) := by
 unfold Lib.decodeL Utf8.decode
 simp only [get_bt]
 have hz : (ByteArray.mk l.toArray).size = l.length := by simp [ByteArray.size]
 simp only [hz, Nat.zero_add, ct_eq]
 rfl
theorem valid_iff (n : Nat) : Utf8.valid (n : Int) = true ↔ n < 55296 ∨ 57344 ≤ n ∧ n ≤ 1114111 := by
 simp [Utf8.valid]; omega
theorem rune_num (b0 b1 b2 b3 : Nat) (c1 c2 c3 : Bool) (h0 : b0 < 256) (h1 : c1 = true → b1 / 64 = 2) (D : Nat × Nat) (R : Nat)
  (hD : D = (if b0 < 128 then (b0, 1)
  else if (b0 / 32 == 6 && c1) = true then (if (b0 % 32) * 64 + b1 % 64 ≥ 128 then ((b0 % 32) * 64 + b1 % 64, 2) else (65533, 1))
  else if (b0 / 16 == 14 && c1 && c2) = true then (if (decide ((b0 % 16) * 4096 + (b1 % 64) * 64 + b2 % 64 ≥ 2048) && Utf8.valid (((b0 % 16) * 4096 + (b1 % 64) * 64 + b2 % 64 : Nat) : Int)) = true then ((b0 % 16) * 4096 + (b1 % 64) * 64 + b2 % 64, 3) else (65533, 1))
  else if (b0 / 8 == 30 && c1 && c2 && c3) = true then (if (decide ((b0 % 8) * 262144 + (b1 % 64) * 4096 + (b2 % 64) * 64 + b3 % 64 ≥ 65536) && Utf8.valid (((b0 % 8) * 262144 + (b1 % 64) * 4096 + (b2 % 64) * 64 + b3 % 64 : Nat) : Int)) = true then ((b0 % 8) * 262144 + (b1 % 64) * 4096 + (b2 % 64) * 64 + b3 % 64, 4) else (65533, 1))
  else (65533, 1)))
  (hR : R = if b0 < 128 then 1
   else if 194 ≤ b0 ∧ b0 < 224 ∧ c1 = true then 2
   else if 224 ≤ b0 ∧ b0 < 240 ∧ c1 = true ∧ c2 = true then (if b0 = 224 ∧ b1 < 160 ∨ b0 = 237 ∧ 160 ≤ b1 then 0 else 3)
   else if 240 ≤ b0 ∧ b0 < 245 ∧ c1 = true ∧ c2 = true ∧ c3 = true then (if b0 = 240 ∧ b1 < 144 ∨ b0 = 244 ∧ 144 ≤ b1 then 0 else 4)
   else 0) :
  R = 0 ∧ D = (65533, 1) ∨ R ≠ 0 ∧ D.2 = R ∧ ¬ (D.1 = 65533 ∧ D.2 = 1) := by
 by_cases a : b0 < 128
 ·rw [if_pos a] at hD hR
  subst hD hR
  exact .inr ⟨by decide, rfl, by simp; omega⟩
 rw [if_neg a] at hD hR
 cases c1
 ·simp at hD hR
  exact .inl ⟨hR, hD⟩
 have h1' := h1 rfl
 simp only [and_true, Bool.and_true, true_and] at hD hR
 by_cases b : 194 ≤ b0 ∧ b0 < 224
 ·rw [if_pos b] at hR
  rw [if_pos (by simp; omega), if_pos (by omega)] at hD
  subst hD hR
  exact .inr ⟨by decide, rfl, by simp⟩
 rw [if_neg b] at hR
 by_cases b2 : b0 / 32 = 6
 ·rw [if_pos (by simp [b2]), if_neg (by omega)] at hD
  rw [if_neg (by omega), if_neg (by omega)] at hR
  exact .inl ⟨hR, hD⟩
 rw [if_neg (by simp [b2])] at hD
 cases c2
 ·simp at hD hR
  exact .inl ⟨hR, hD⟩
 simp only [and_true, Bool.and_true, true_and] at hD hR
 by_cases b3 : 224 ≤ b0 ∧ b0 < 240
 ·rw [if_pos b3] at hR
  rw [if_pos (by simp; omega)] at hD
  by_cases q : b0 = 224 ∧ b1 < 160 ∨ b0 = 237 ∧ 160 ≤ b1
  ·rw [if_pos q] at hR
   rw [if_neg (by rw [Bool.and_eq_true, decide_eq_true_eq, valid_iff]; omega)] at hD
   exact .inl ⟨hR, hD⟩
  ·rw [if_neg q] at hR
   rw [if_pos (by rw [Bool.and_eq_true, decide_eq_true_eq, valid_iff]; omega)] at hD
   subst hD hR
   exact .inr ⟨by decide, rfl, by simp⟩
 rw [if_neg b3] at hR
 rw [if_neg (by simp; omega)] at hD
 cases c3
 ·simp at hD hR
  exact .inl ⟨hR, hD⟩
 simp only [and_true, Bool.and_true] at hD hR
 by_cases b4 : 240 ≤ b0 ∧ b0 < 245
 ·rw [if_pos b4] at hR
  rw [if_pos (by simp; omega)] at hD
  by_cases q : b0 = 240 ∧ b1 < 144 ∨ b0 = 244 ∧ 144 ≤ b1
  ·rw [if_pos q] at hR
   rw [if_neg (by rw [Bool.and_eq_true, decide_eq_true_eq, valid_iff]; omega)] at hD
   exact .inl ⟨hR, hD⟩
  ·rw [if_neg q] at hR
   rw [if_pos (by rw [Bool.and_eq_true, decide_eq_true_eq, valid_iff]; omega)] at hD
   subst hD hR
   exact .inr ⟨by decide, rfl, by simp⟩
 rw [if_neg b4] at hR
 by_cases b5 : b0 / 8 = 30
 ·rw [if_pos (by simp [b5]), if_neg (by rw [Bool.and_eq_true, decide_eq_true_eq, valid_iff]; omega)] at hD
  exact .inl ⟨hR, hD⟩
 ·rw [if_neg (by simp [b5])] at hD
  exact .inl ⟨hR, hD⟩
theorem decode_rune (l : List UInt8) : runeN l = 0 ∧ Lib.decodeL l = (65533, 1) ∨ runeN l ≠ 0 ∧ (Lib.decodeL l).2 = runeN l ∧ ¬ ((Lib.decodeL l).1 = 65533 ∧ (Lib.decodeL l).2 = 1) :=
 rune_num (bt l 0) (bt l 1) (bt l 2) (bt l 3) (ct l 1) (ct l 2) (ct l 3) (bt_lt l 0) (fun h => ((ct_iff l 1).1 h).2) _ _ (decode_eq l) rfl
theorem runeN_le (l : List UInt8) (h : l ≠ []) : runeN l ≤ l.length := by
 have hl : 0 < l.length := List.length_pos_iff.2 h
 unfold runeN
 split
 ·omega
 ·split
  ·rename_i h; have := ((ct_iff l 1).1 h.2.2).1; omega
  ·split
   ·rename_i h; have := ((ct_iff l 2).1 h.2.2.2).1; split <;> omega
   ·split
    ·rename_i h; have := ((ct_iff l 3).1 h.2.2.2.2).1; split <;> omega
    ·omega
theorem valid_step (l : List UInt8) (h : l ≠ []) : Lib.validD l = if runeN l = 0 then false else Lib.validD (l.drop (runeN l)) := by
 rw [Lib.validD_step l h]
 rcases decode_rune l with ⟨h0, h1⟩ | ⟨h0, h1, h2⟩
 ·rw [if_pos h0, h1]; simp
 ·rw [if_neg h0, if_neg h2, h1]
end Up
end
section
open Go.RowKit Np Up
theorem bt_get (s : ByteArray) (i k : Nat) (h : i + k < s.size) : (s[i + k]).toNat = bt (s.data.toList.drop i) k := by
 unfold bt
 rw [List.getD_eq_getElem?_getD, List.getElem?_drop, List.getElem?_eq_getElem (by simpa using h)]
 rfl
theorem refCont_any (s : ByteArray) (i : Int) (w : World) (h0 : 0 ≤ i) :
  Calls Tryz.prog 75 #[.string s, .int .i64 i] w fun e w' => e = .returned (.bool (ct (s.data.toList.drop i.toNat) 0)) ∧ w = w' := by
 obtain ⟨k, rfl⟩ := Int.eq_ofNat_of_zero_le h0
 rw [Int.toNat_natCast]
 by_cases hk : k < s.size
 ·have hb := bt_get s k 0 (by omega)
  have HB : Hid (ct (s.data.toList.drop k) 0 = (decide (128 ≤ s[k].toNat) && decide (s[k].toNat < 192))) := Lib.hid (by
   have hl : decide (0 < (s.data.toList.drop k).length) = true := by simp; omega
   unfold ct; rw [← hb, hl, Bool.true_and]; rfl)
  clear hb
  go_enter Tryz.func75, Tryz.ntmps75
  go_wp2
  all_goals go_ret
  all_goals exact ⟨ret_bool (by rw [HB.out, Bool.eq_iff_iff]; simp; omega), rfl⟩
 ·have HB : Hid (ct (s.data.toList.drop k) 0 = false) := Lib.hid (by
   unfold ct; simp; omega)
  go_enter Tryz.func75, Tryz.ntmps75
  go_wp2
  all_goals go_ret
  all_goals exact ⟨ret_bool HB.out.symm, rfl⟩
theorem refCont_from (s : ByteArray) (i : Nat) (j : Int) (w : World) (hj : (i : Int) ≤ j) :
  Calls Tryz.prog 75 #[.string s, .int .i64 j] w fun e w' => e = .returned (.bool (ct (s.data.toList.drop i) (j - i).toNat)) ∧ w = w' :=
 (refCont_any s j w (by omega)).mono fun _ _ ⟨he, hw⟩ => ⟨by
  rw [he]
  congr 2
  obtain ⟨k, rfl⟩ : ∃ k : Nat, j = i + k := ⟨(j - i).toNat, by omega⟩
  rw [show ((i : Int) + k).toNat = i + k by omega, show ((i : Int) + k - i).toNat = k by omega]
  unfold ct bt
  have e1 : (List.drop (i + k) s.data.toList).getD 0 0 = (List.drop i s.data.toList).getD k 0 := by
   simp [List.getD_eq_getElem?_getD, List.getElem?_drop]
  rw [e1]
  congr 2
  rw [decide_eq_decide, List.length_drop, List.length_drop]; omega, hw⟩
theorem runeN_a {l : List UInt8} (h1 : ct l 1 = false) : runeN l = if bt l 0 < 128 then 1 else 0 := by simp [runeN, h1]
theorem runeN_b {l : List UInt8} (h1 : ct l 1 = true) (h2 : ct l 2 = false) : runeN l = if bt l 0 < 128 then 1 else if 194 ≤ bt l 0 ∧ bt l 0 < 224 then 2 else 0 := by simp [runeN, h1, h2]
theorem runeN_c {l : List UInt8} (h1 : ct l 1 = true) (h2 : ct l 2 = true) (h3 : ct l 3 = false) : runeN l = if bt l 0 < 128 then 1 else if 194 ≤ bt l 0 ∧ bt l 0 < 224 then 2
  else if 224 ≤ bt l 0 ∧ bt l 0 < 240 then (if bt l 0 = 224 ∧ bt l 1 < 160 ∨ bt l 0 = 237 ∧ 160 ≤ bt l 1 then 0 else 3) else 0 := by simp [runeN, h1, h2, h3]
theorem runeN_d {l : List UInt8} (h1 : ct l 1 = true) (h2 : ct l 2 = true) (h3 : ct l 3 = true) : runeN l = if bt l 0 < 128 then 1 else if 194 ≤ bt l 0 ∧ bt l 0 < 224 then 2
  else if 224 ≤ bt l 0 ∧ bt l 0 < 240 then (if bt l 0 = 224 ∧ bt l 1 < 160 ∨ bt l 0 = 237 ∧ 160 ≤ bt l 1 then 0 else 3)
  else if 240 ≤ bt l 0 ∧ bt l 0 < 245 then (if bt l 0 = 240 ∧ bt l 1 < 144 ∨ bt l 0 = 244 ∧ 144 ≤ bt l 1 then 0 else 4) else 0 := by simp [runeN, h1, h2, h3]
theorem off1 (i : Nat) : ((i : Int) + 1 - i).toNat = 1 := by omega
theorem off2 (i : Nat) : ((i : Int) + 2 - i).toNat = 2 := by omega
theorem off3 (i : Nat) : ((i : Int) + 3 - i).toNat = 3 := by omega
theorem refRune_any (s : ByteArray) (i : Nat) (w : World) (hs : s.size ≤ maxLen) (hi : i < s.size) :
  Calls Tryz.prog 44 #[.string s, .int .i64 i] w fun e w' => e = .returned (.int .i64 (runeN (s.data.toList.drop i) : Nat)) ∧ w = w' := by
 unfold maxLen at hs
 have hb0 : bt (s.data.toList.drop i) 0 = s[i].toNat := (bt_get s i 0 (by omega)).symm
 have hb1 : ∀ h : i + 1 < s.size, bt (s.data.toList.drop i) 1 = s[i + 1].toNat := fun h => (bt_get s i 1 h).symm
 have hsz : ∀ k, ct (s.data.toList.drop i) k = true → i + k < s.size := fun k h => by
  have := ((ct_iff _ _).1 h).1
  simp at this; omega
 have H0 := Lib.hid hb0
 clear hb0
 cases h1 : ct (s.data.toList.drop i) 1
 ·have H1 := Lib.hid h1
  have HR := Lib.hid (runeN_a h1)
  clear h1 hb1 hsz
  go_enter Tryz.func44, Tryz.ntmps44
  go_wp2_with (go_at_call 75; refine (refCont_from s i _ _ (by omega)).mono ?_; rintro e w' ⟨rfl, rfl⟩; rw [off1, H1.out])
  all_goals go_ret
  all_goals exact ⟨ret_i64 (by rw [HR.out, H0.out]; (repeat' split) <;> omega), rfl⟩
 ·have hl1 := hsz 1 h1
  have HB1 := Lib.hid (hb1 hl1)
  have H1 := Lib.hid h1
  cases h2 : ct (s.data.toList.drop i) 2
  ·have H2 := Lib.hid h2
   have HR := Lib.hid (runeN_b h1 h2)
   clear h1 h2 hb1 hsz
   go_enter Tryz.func44, Tryz.ntmps44
   go_wp2_with (go_at_call 75; refine (refCont_from s i _ _ (by omega)).mono ?_; rintro e w' ⟨rfl, rfl⟩; (first | rw [off1, H1.out] | rw [off2, H2.out]))
   all_goals go_ret
   all_goals exact ⟨ret_i64 (by rw [HR.out, H0.out]; (repeat' split) <;> omega), rfl⟩
  ·have H2 := Lib.hid h2
   have hl2 := hsz 2 h2
   cases h3 : ct (s.data.toList.drop i) 3
   ·have H3 := Lib.hid h3
    have HR := Lib.hid (runeN_c h1 h2 h3)
    clear h1 h2 h3 hb1 hsz
    go_enter Tryz.func44, Tryz.ntmps44
    go_wp2_with (go_at_call 75; refine (refCont_from s i _ _ (by omega)).mono ?_; rintro e w' ⟨rfl, rfl⟩; (first | rw [off1, H1.out] | rw [off2, H2.out] | rw [off3, H3.out]))
    all_goals go_ret
    all_goals exact ⟨ret_i64 (by rw [HR.out, H0.out, HB1.out]; (repeat' split) <;> omega), rfl⟩
   ·have H3 := Lib.hid h3
    have HR := Lib.hid (runeN_d h1 h2 h3)
    clear h1 h2 h3 hb1 hsz
    go_enter Tryz.func44, Tryz.ntmps44
    go_wp2_with (go_at_call 75; refine (refCont_from s i _ _ (by omega)).mono ?_; rintro e w' ⟨rfl, rfl⟩; (first | rw [off1, H1.out] | rw [off2, H2.out] | rw [off3, H3.out]))
    all_goals go_ret
    all_goals exact ⟨ret_i64 (by rw [HR.out, H0.out, HB1.out]; (repeat' split) <;> omega), rfl⟩
theorem refUtf_any (s : ByteArray) (w : World) (hs : s.size ≤ maxLen) :
  Calls Tryz.prog 18 #[.string s] w fun e w' => e = .returned (.bool (Lib.validD s.data.toList)) ∧ w = w' := by
 have hs' := hs
 unfold maxLen at hs
 go_enter Tryz.func18, Tryz.ntmps18
 go_wp2
 go_loop [3] (fun i => ∃ k : Nat, k ≤ s.size ∧ i = .int .i64 k ∧ Lib.validD (s.data.toList.drop k) = Lib.validD s.data.toList) (fun i => s.size - (intOf i).toNat)
 case atStart => exact ⟨0, Nat.zero_le _, rfl, rfl⟩
 case round =>
  obtain ⟨k, hk, rfl, hf⟩ := hrel
  have HF := Lib.hid hf; clear hf
  by_cases hlt : k < s.size
  ·have hne : s.data.toList.drop k ≠ [] := by intro h; have := congrArg List.length h; simp at this; omega
   have hst := valid_step _ hne
   have hle := runeN_le _ hne
   rw [List.length_drop, size_toList] at hle
   rw [List.drop_drop] at hst
   generalize hr : runeN (s.data.toList.drop k) = r at hst hle
   have HRN := Lib.hid hr; clear hr
   by_cases h0 : r = 0
   ·subst h0
    have HN : Hid (Lib.validD s.data.toList = false) := Lib.hid (by rw [← HF.out, hst]; rfl)
    clear hst hne
    go_wp2_with (go_at_call 44; refine (refRune_any _ _ _ hs' hlt).mono ?_; rintro e w' ⟨rfl, rfl⟩; rw [HRN.out])
    go_ret
    exact ⟨ret_bool HN.out.symm, rfl⟩
   ·have HN : Hid (Lib.validD (s.data.toList.drop (k + r)) = Lib.validD s.data.toList) := Lib.hid (by rw [← HF.out, hst, if_neg h0])
    have hz : ((r : Int) == 0) = false := by simp [h0]
    clear hst hne
    go_wp2_with (go_at_call 44; refine (refRune_any _ _ _ hs' hlt).mono ?_; rintro e w' ⟨rfl, rfl⟩; rw [HRN.out])
    go_round
    case rel => exact ⟨k + r, by omega, by go_num, HN.out⟩
    case measure => simp [intOf]; omega
  ·have HC : Hid (Lib.validD s.data.toList = true) := Lib.hid (by rw [← HF.out, List.drop_of_length_le (by simp; omega)]; rfl)
   go_wp2
   go_ret
   exact ⟨ret_bool HC.out.symm, rfl⟩
end
section
open Go.RowKit Np
theorem pos_of_notEmpty {s : ByteArray} (h : s.toList.isEmpty = false) : 0 < s.size := by
 rw [ByteArray.toList_eq] at h
 have := size_toList s
 cases hl : s.data.toList with
 | nil => rw [hl] at h; cases h
 | cons a t => rw [hl] at this; simp at this; omega
end
section
open Go.RowKit
def lenOf : Value → Nat
 | .slice _ n _ => n
 | _ => 0
end
end Go.Proofs.YtldioobbfkaebaaGreatDoor
