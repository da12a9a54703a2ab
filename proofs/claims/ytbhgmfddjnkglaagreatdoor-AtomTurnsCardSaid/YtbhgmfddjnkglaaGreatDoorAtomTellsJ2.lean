/-
  Joined: FindP, TreeP, OTxP, AtP, AtM, AtW1, ObjP2.
-/
import Derived.Test.YtbhgmfddjnkglaaGreatDoorValP2
import Derived.Test.YtbhgmfddjnkglaaGreatDoorAtomTellsJ1

/-
  Plain words: where an object's part of a name stands, by a walk along its parts. No program stands here.
-/
namespace Go.Proofs.YtbhgmfddjnkglaaGreatDoor
namespace Vp
open Go.RowKit Np Rw

/-- Where the part of that name begins, and where it ends; both the place where it would stand. -/
def findK (nm : List UInt8) : Nat → List (Tr Nd) → Nat × Nat
  | p, [] => (p, p)
  | p, t :: ts => if t.nd.name = nm then (p, p + (flat t).length) else if nm < t.nd.name then (p, p) else findK nm (p + (flat t).length) ts
def passes (nm : List UInt8) (t : Tr Nd) : Prop := t.nd.name ≠ nm ∧ ¬ nm < t.nd.name
theorem findK_pass {nm : List UInt8} : ∀ (ts us : List (Tr Nd)) (p : Nat), (∀ t ∈ ts, passes nm t) → findK nm p (ts ++ us) = findK nm (p + (flats ts).length) us
  | [], us, p, _ => by simp
  | t :: ts, us, p, h => by
    have h1 := h t (by simp)
    rw [List.cons_append, findK, if_neg h1.1, if_neg h1.2, findK_pass ts us _ (fun x hx => h x (by simp [hx])), flats_cons, List.length_append, Nat.add_assoc]
theorem findK_all {nm : List UInt8} {ts : List (Tr Nd)} {p : Nat} (h : ∀ t ∈ ts, passes nm t) : findK nm p ts = (p + (flats ts).length, p + (flats ts).length) := by
  have := findK_pass ts [] p h
  rw [List.append_nil] at this
  rw [this, findK]
theorem findK_hit {nm : List UInt8} {ts us : List (Tr Nd)} {t : Tr Nd} {p : Nat} (h : ∀ t ∈ ts, passes nm t) (ht : t.nd.name = nm) : findK nm p (ts ++ t :: us) = (p + (flats ts).length, p + (flats ts).length + (flat t).length) := by
  rw [findK_pass ts _ p h, findK, if_pos ht]
theorem findK_over {nm : List UInt8} {ts us : List (Tr Nd)} {t : Tr Nd} {p : Nat} (h : ∀ t ∈ ts, passes nm t) (ht : nm < t.nd.name) : findK nm p (ts ++ t :: us) = (p + (flats ts).length, p + (flats ts).length) := by
  rw [findK_pass ts _ p h, findK, if_neg (fun e => by rw [e] at ht; exact List.lt_irrefl _ ht), if_pos ht]
end Vp
end Go.Proofs.YtbhgmfddjnkglaaGreatDoor

/-
  Plain words: objects as trees: parts by their names; one with another part, or without one; what is right of them. No program stands here.
-/
namespace Go.Proofs.YtbhgmfddjnkglaaGreatDoor
namespace Vp
open Go.RowKit Np Rw

def nmN (nm : List UInt8) (n : Nd) : Nd := { n with name := nm }
def nmd (nm : List UInt8) (t : Tr Nd) : Tr Nd := .mk (nmN nm t.nd) t.ks
theorem nmd_nd (nm : List UInt8) (t : Tr Nd) : (nmd nm t).nd = nmN nm t.nd := rfl
theorem nmd_name (nm : List UInt8) (t : Tr Nd) : (nmd nm t).nd.name = nm := rfl
theorem nmd_ks (nm : List UInt8) (t : Tr Nd) : (nmd nm t).ks = t.ks := rfl
theorem nmd_self (t : Tr Nd) : nmd t.nd.name t = t := by cases t; rfl
theorem nmd_nmd (a b : List UInt8) (t : Tr Nd) : nmd a (nmd b t) = nmd a t := rfl
theorem flat_nmd (nm : List UInt8) (t : Tr Nd) : flat (nmd nm t) = setNm nm (flat t) := by rw [nmd, flat_mk, flat_eq t]; rfl
theorem flat_nmd_len (nm : List UInt8) (t : Tr Nd) : (flat (nmd nm t)).length = (flat t).length := by rw [flat_nmd, setNm_len]
theorem plainN_nm (nm : List UInt8) (n : Nd) : plainN (nmN nm n) = plainN n := by unfold plainN nmN; rfl
theorem okT_nmd {nm : List UInt8} {t : Tr Nd} (h : okT many t) : okT many (nmd nm t) := okT_mk.2 (okT_eq.1 h)
theorem rightT_nmd (nm : List UInt8) (t : Tr Nd) : rightT (nmd nm t) = rightT t := by rw [nmd, rightT_mk, rightT_eq, plainN_nm]; rfl
theorem Val.clr {u : Tr Nd} (h1 : okT many u) (h2 : rightT u = true) : Val (nmd [] u) := ⟨okT_nmd h1, by rw [rightT_nmd]; exact h2, rfl⟩
theorem nmd_val {t : Tr Nd} (h : Val t) (nm : List UInt8) : nmd [] (nmd nm t) = t := by
  rw [nmd_nmd]; conv => rhs; rw [← nmd_self t, h.nm]

/-- Names that rise, of parts. -/
def Rise (ts : List (Tr Nd)) : Prop := ts.Pairwise (fun a b => a.nd.name < b.nd.name)
def Named (ts : List (Tr Nd)) : Prop := Rise ts ∧ ∀ t ∈ ts, vld t.nd.name = true
theorem nameOk_six (t : Tr Nd) : nameOk 6 t = vld t.nd.name := by simp [nameOk]
theorem rising_named : ∀ ts : List (Tr Nd), rising 6 ts = true ↔ Named ts
  | [] => by simp [rising, Named, Rise]
  | [t] => by simp [rising, Named, Rise, nameOk_six]
  | t :: u :: ts => by
    have ih := rising_named (u :: ts)
    rw [rising, Bool.and_eq_true, Bool.and_eq_true, nameOk_six, ih]
    unfold Named Rise
    rw [List.pairwise_cons (l := u :: ts)]
    constructor
    · rintro ⟨⟨h1, h2⟩, h3, h4⟩
      have h2' : t.nd.name < u.nd.name := by simpa using h2
      refine ⟨⟨fun b hb => ?_, h3⟩, fun x hx => ?_⟩
      · rcases List.mem_cons.1 hb with rfl | hb
        · exact h2'
        · exact List.lt_trans h2' ((List.pairwise_cons.1 h3).1 b hb)
      · rcases List.mem_cons.1 hx with rfl | hx
        · exact h1
        · exact h4 x hx
    · rintro ⟨⟨h1, h2⟩, h3⟩
      exact ⟨⟨h3 t (by simp), by simpa using h1 u (by simp)⟩, h2, fun x hx => h3 x (by simp [hx])⟩

theorem plainN_hd (n : Nat) : plainN (hdN 6 n) = true := by simp [plainN, hdN]
theorem plainN_hd5 (n : Nat) : plainN (hdN 5 n) = true := by simp [plainN, hdN]
def Parts (ts : List (Tr Nd)) : Prop := ∀ t ∈ ts, okT many t ∧ rightT t = true
/-- An object of named parts. -/
def objT (ts : List (Tr Nd)) : Tr Nd := .mk (hdN 6 ts.length) ts
def arrT (ts : List (Tr Nd)) : Tr Nd := .mk (hdN 5 ts.length) ts
theorem flat_objT (ts : List (Tr Nd)) : flat (objT ts) = hdN 6 ts.length :: flats ts := flat_mk _ _
theorem flat_arrT (ts : List (Tr Nd)) : flat (arrT ts) = hdN 5 ts.length :: flats ts := flat_mk _ _
theorem val_objT {ts : List (Tr Nd)} (hp : Parts ts) (hn : Named ts) : Val (objT ts) := by
  refine ⟨okT_mk.2 ⟨rfl, okTs_all.2 fun t ht => (hp t ht).1⟩, ?_, rfl⟩
  rw [objT, rightT_mk, plainN_hd, Bool.true_and]
  show rightKs 6 false [] ts = true
  rw [rightKs_obj, (rising_named ts).2 hn, Bool.true_and, List.all_eq_true]
  exact fun t ht => (hp t ht).2
theorem rising_five : ∀ ts : List (Tr Nd), (∀ t ∈ ts, t.nd.name = []) → rising 5 ts = true
  | [], _ => rfl
  | [t], h => by rw [rising, nameOk, h t (by simp)]; rfl
  | t :: u :: ts, h => by
    rw [rising, nameOk, h t (by simp), rising_five (u :: ts) (fun x hx => h x (by simp [hx]))]; rfl
theorem five_rising : ∀ ts : List (Tr Nd), rising 5 ts = true → ∀ t ∈ ts, t.nd.name = []
  | [], _, t, ht => by simp at ht
  | [u], h, t, ht => by
    simp at ht; subst ht
    simp [rising, nameOk] at h; exact h.1
  | u :: x :: ts, h, t, ht => by
    rw [rising, Bool.and_eq_true, Bool.and_eq_true] at h
    rcases List.mem_cons.1 ht with rfl | ht
    · have := h.1.1; simp [nameOk] at this; exact this.1
    · exact five_rising (x :: ts) h.2 t ht
theorem val_arrT {ts : List (Tr Nd)} (hp : ∀ t ∈ ts, Val t) : Val (arrT ts) := by
  refine ⟨okT_mk.2 ⟨rfl, okTs_all.2 fun t ht => (hp t ht).ok⟩, ?_, rfl⟩
  rw [arrT, rightT_mk, plainN_hd5, Bool.true_and]
  show rightKs 5 false [] ts = true
  rw [rightKs_arr, rising_five ts (fun t ht => (hp t ht).nm), Bool.true_and, List.all_eq_true]
  exact fun t ht => (hp t ht).rt
/-- What an object is. -/
theorem Val.parts {t : Tr Nd} (h : Val t) : Parts t.ks := val_kids h
theorem Val.plain {t : Tr Nd} (h : Val t) : plainN t.nd = true := by
  have := h.rt; rw [rightT_eq, Bool.and_eq_true] at this; exact this.1
theorem Val.named {t : Tr Nd} (h : Val t) (hk : t.nd.kind = 6) : Named t.ks := by
  have := h.rt
  rw [rightT_eq, Bool.and_eq_true, hk, rightKs_obj, Bool.and_eq_true] at this
  exact (rising_named _).1 this.2.1
theorem Val.unnamed {t : Tr Nd} (h : Val t) (hk : t.nd.kind = 5) : ∀ u ∈ t.ks, u.nd.name = [] := by
  have := h.rt
  rw [rightT_eq, Bool.and_eq_true, hk, rightKs_arr, Bool.and_eq_true] at this
  exact five_rising _ this.2.1
theorem Val.hd {t : Tr Nd} (h : Val t) (hk : t.nd.kind = 5 ∨ t.nd.kind = 6) : t.nd = hdN t.nd.kind t.ks.length := by
  have h1 := h.plain
  have h2 := (okT_eq.1 h.ok).1
  have h3 := h.nm
  obtain ⟨⟨k, m, nm, s, g, e⟩, ks⟩ := t
  simp only [Tr.nd_mk, Tr.ks_mk] at *
  unfold plainN at h1
  simp only at h1 h2 h3
  rw [if_neg (by omega), if_neg (by omega), if_neg (by omega), if_pos hk] at h1
  simp at h1
  obtain ⟨⟨⟨h4, h5⟩, h6⟩, h7⟩ := h1
  have h8 : m = ks.length := h2
  subst h3 h5 h6 h7 h8
  rfl
theorem Val.obj {t : Tr Nd} (h : Val t) (hk : t.nd.kind = 6) : t = objT t.ks := by
  have := h.hd (.inr hk)
  rw [hk] at this
  rw [objT, ← this]; exact Tr.eta t
theorem Val.arr {t : Tr Nd} (h : Val t) (hk : t.nd.kind = 5) : t = arrT t.ks := by
  have := h.hd (.inl hk)
  rw [hk] at this
  rw [arrT, ← this]; exact Tr.eta t
theorem Val.leaf {t : Tr Nd} (h : Val t) (h5 : t.nd.kind ≠ 5) (h6 : t.nd.kind ≠ 6) : t.ks = [] := by
  have h1 := (plainN_many h.plain).2 h5 h6
  have h2 : t.nd.many = t.ks.length := (okT_eq.1 h.ok).1
  exact List.eq_nil_of_length_eq_zero (by omega)

/-- Parts ahead of a name, of it, and behind it. -/
structure Cut (nm : List UInt8) (ts pre mid post : List (Tr Nd)) : Prop where
  all : ts = pre ++ (mid ++ post)
  lo : ∀ u ∈ pre, u.nd.name < nm
  eq : ∀ u ∈ mid, u.nd.name = nm
  one : mid.length ≤ 1
  hi : ∀ u ∈ post, nm < u.nd.name
theorem cut_ex (nm : List UInt8) : ∀ ts : List (Tr Nd), Rise ts → ∃ pre mid post, Cut nm ts pre mid post
  | [], _ => ⟨[], [], [], rfl, by simp, by simp, by simp, by simp⟩
  | t :: ts, h => by
    obtain ⟨h1, h2⟩ := List.pairwise_cons.1 h
    by_cases he : t.nd.name = nm
    · exact ⟨[], [t], ts, rfl, by simp, by simpa using he, by simp, fun u hu => he ▸ h1 u hu⟩
    · by_cases hl : nm < t.nd.name
      · refine ⟨[], [], t :: ts, rfl, by simp, by simp, by simp, fun u hu => ?_⟩
        rcases List.mem_cons.1 hu with rfl | hu
        · exact hl
        · exact List.lt_trans hl (h1 u hu)
      · obtain ⟨pre, mid, post, hc⟩ := cut_ex nm ts h2
        refine ⟨t :: pre, mid, post, by rw [hc.all]; rfl, fun u hu => ?_, hc.eq, hc.one, hc.hi⟩
        rcases List.mem_cons.1 hu with rfl | hu
        · exact lt_of_ne hl he
        · exact hc.lo u hu
theorem Cut.find {nm : List UInt8} {ts pre mid post : List (Tr Nd)} (h : Cut nm ts pre mid post) (p : Nat) : findK nm p ts = (p + (flats pre).length, p + (flats pre).length + (flats mid).length) := by
  have hp : ∀ t ∈ pre, passes nm t := fun t ht => ⟨fun e => List.lt_irrefl _ (e ▸ h.lo t ht), fun h' => List.lt_irrefl _ (List.lt_trans h' (h.lo t ht))⟩
  rw [h.all]
  rcases mid with _ | ⟨m, mid⟩
  · rw [List.nil_append]
    rcases post with _ | ⟨q, post⟩
    · rw [List.append_nil, findK_all hp]; simp
    · rw [findK_over hp (h.hi q (by simp))]; simp
  · have : mid = [] := List.eq_nil_of_length_eq_zero (by have := h.one; simp at this; simp [this])
    subst this
    rw [List.cons_append, findK_hit hp (h.eq m (by simp))]; simp

theorem rise_put {nm : List UInt8} {pre mid post : List (Tr Nd)} (h1 : Rise pre) (h2 : Rise post) (h3 : ∀ u ∈ pre, u.nd.name < nm) (h4 : ∀ u ∈ post, nm < u.nd.name) (h5 : ∀ u ∈ mid, u.nd.name = nm) (h6 : mid.length ≤ 1) : Rise (pre ++ (mid ++ post)) := by
  unfold Rise at *
  rw [List.pairwise_append, List.pairwise_append]
  refine ⟨h1, ⟨?_, h2, fun a ha b hb => by rw [h5 a ha]; exact h4 b hb⟩, fun a ha b hb => ?_⟩
  · rcases mid with _ | ⟨m, mid⟩
    · simp
    · have : mid = [] := List.eq_nil_of_length_eq_zero (by simp at h6; simp [h6])
      subst this; simp
  · rcases List.mem_append.1 hb with hb | hb
    · rw [h5 b hb]; exact h3 a ha
    · exact List.lt_trans (h3 a ha) (h4 b hb)
theorem Rise.split {a b : List (Tr Nd)} (h : Rise (a ++ b)) : Rise a ∧ Rise b := by
  obtain ⟨h1, h2, -⟩ := List.pairwise_append.1 h; exact ⟨h1, h2⟩
theorem Cut.pre_rise {nm : List UInt8} {ts pre mid post : List (Tr Nd)} (h : Cut nm ts pre mid post) (hr : Rise ts) : Rise pre := by rw [h.all] at hr; exact hr.split.1
theorem Cut.post_rise {nm : List UInt8} {ts pre mid post : List (Tr Nd)} (h : Cut nm ts pre mid post) (hr : Rise ts) : Rise post := by rw [h.all] at hr; exact hr.split.2.split.2
/-- A cut is the only one. -/
theorem Cut.uniq {nm : List UInt8} {ts pre mid post pre' mid' post' : List (Tr Nd)} (h : Cut nm ts pre mid post) (h' : Cut nm ts pre' mid' post') : pre = pre' ∧ mid = mid' ∧ post = post' := by
  have key : ∀ {pre mid post : List (Tr Nd)}, Cut nm ts pre mid post → pre = ts.filter (fun u => decide (u.nd.name < nm)) ∧ mid = ts.filter (fun u => decide (u.nd.name = nm)) ∧ post = ts.filter (fun u => decide (nm < u.nd.name)) := by
    intro pre mid post h
    have e1 : ∀ (p : Tr Nd → Bool) (l : List (Tr Nd)), (∀ u ∈ l, p u = true) → l.filter p = l := fun p l h => List.filter_eq_self.2 h
    have e2 : ∀ (p : Tr Nd → Bool) (l : List (Tr Nd)), (∀ u ∈ l, p u = false) → l.filter p = [] := fun p l h => List.filter_eq_nil_iff.2 (fun u hu => by simp [h u hu])
    have hlt : ∀ {a b : List UInt8}, a < b → ¬ b < a := fun h1 h2 => List.lt_irrefl _ (List.lt_trans h1 h2)
    have hne : ∀ {a b : List UInt8}, a < b → ¬ a = b := fun h1 h2 => List.lt_irrefl _ (h2 ▸ h1)
    rw [h.all]
    simp only [List.filter_append]
    refine ⟨?_, ?_, ?_⟩
    · rw [e1 _ pre (fun u hu => by simpa using h.lo u hu), e2 _ mid (fun u hu => by simp [h.eq u hu, List.lt_irrefl]), e2 _ post (fun u hu => by simpa using hlt (h.hi u hu))]; simp
    · rw [e2 _ pre (fun u hu => by simpa using hne (h.lo u hu)), e1 _ mid (fun u hu => by simpa using h.eq u hu), e2 _ post (fun u hu => by simpa using fun e => hne (h.hi u hu) e.symm)]; simp
    · rw [e2 _ pre (fun u hu => by simpa using hlt (h.lo u hu)), e2 _ mid (fun u hu => by simp [h.eq u hu, List.lt_irrefl]), e1 _ post (fun u hu => by simpa using h.hi u hu)]; simp
  obtain ⟨a1, a2, a3⟩ := key h
  obtain ⟨b1, b2, b3⟩ := key h'
  exact ⟨a1.trans b1.symm, a2.trans b2.symm, a3.trans b3.symm⟩
end Vp
end Go.Proofs.YtbhgmfddjnkglaaGreatDoor

/-
  Plain words: the order of values, told of their trees. No program stands here.
-/
namespace Go.Proofs.YtbhgmfddjnkglaaGreatDoor
namespace Ov
open Go.RowKit Np Rw Vp

/-- The first of two that is not nought. -/
def orI (a b : Int) : Int := if a = 0 then b else a
/-- Which of two rows of texts is less. -/
def cmpNm : List (List UInt8) → List (List UInt8) → Int
  | a :: aa, b :: bb => orI (cmpB a b) (cmpNm aa bb)
  | [], bb => Lib.compareInt 0 bb.length
  | _ :: aa, [] => Lib.compareInt (aa.length + 1 : Nat) 0
abbrev nms (ts : List (Tr Nd)) : List (List UInt8) := ts.map fun t => t.nd.name

mutual
/-- Which of two values is less. -/
def cmpT : Tr Nd → Tr Nd → Int
  | .mk x xs, .mk y ys =>
    orI (Lib.compareInt x.kind y.kind)
      (if x.kind = 3 then cmpN x.s x.neg x.e y.s y.neg y.e
       else if x.kind = 4 then cmpB x.s y.s
       else if x.kind = 5 then cmpTs xs ys
       else if x.kind = 6 then orI (cmpNm (nms xs) (nms ys)) (cmpTs xs ys)
       else 0)
/-- Which of two rows of values is less, part by part; else the shorter one. -/
def cmpTs : List (Tr Nd) → List (Tr Nd) → Int
  | t :: ts, us => match us with
    | [] => 1
    | u :: us => orI (cmpT t u) (cmpTs ts us)
  | [], us => match us with
    | [] => 0
    | _ :: _ => -1
end
theorem cmpT_mk (x y : Nd) (xs ys : List (Tr Nd)) : cmpT (.mk x xs) (.mk y ys) = orI (Lib.compareInt x.kind y.kind) (if x.kind = 3 then cmpN x.s x.neg x.e y.s y.neg y.e else if x.kind = 4 then cmpB x.s y.s else if x.kind = 5 then cmpTs xs ys else if x.kind = 6 then orI (cmpNm (nms xs) (nms ys)) (cmpTs xs ys) else 0) := by rw [cmpT]
theorem cmpTs_cons (t u : Tr Nd) (ts us : List (Tr Nd)) : cmpTs (t :: ts) (u :: us) = orI (cmpT t u) (cmpTs ts us) := by rw [cmpTs]
@[simp] theorem cmpTs_nil : cmpTs [] [] = 0 := by rw [cmpTs]
@[simp] theorem cmpTs_less (u : Tr Nd) (us : List (Tr Nd)) : cmpTs [] (u :: us) = -1 := by rw [cmpTs]
@[simp] theorem cmpTs_more (t : Tr Nd) (ts : List (Tr Nd)) : cmpTs (t :: ts) [] = 1 := by rw [cmpTs]
theorem cmpI_neg (x y : Int) : Lib.compareInt y x = -Lib.compareInt x y := by unfold Lib.compareInt; (repeat' split) <;> omega
theorem cmpI_range (x y : Int) : Lib.compareInt x y = -1 ∨ Lib.compareInt x y = 0 ∨ Lib.compareInt x y = 1 := by unfold Lib.compareInt; (repeat' split) <;> omega
theorem cmpB_neg (a b : List UInt8) : cmpB b a = -cmpB a b := by
  rcases cmpB_cases a b with h | h | h
  · rw [h, (cmpB_gt b a).2 ((cmpB_lt a b).1 h)]; rfl
  · rw [h, (cmpB_eq b a).2 ((cmpB_eq a b).1 h).symm]; rfl
  · rw [h, (cmpB_lt b a).2 ((cmpB_gt a b).1 h)]
theorem orI_neg {a b a' b' : Int} (h : a' = -a) (h2 : b' = -b) : orI a' b' = -orI a b := by unfold orI; split <;> split <;> omega
theorem orI_range {a b : Int} (h : a = -1 ∨ a = 0 ∨ a = 1) (h2 : b = -1 ∨ b = 0 ∨ b = 1) : orI a b = -1 ∨ orI a b = 0 ∨ orI a b = 1 := by unfold orI; split <;> omega
theorem orI_zero {a b : Int} : orI a b = 0 ↔ a = 0 ∧ b = 0 := by unfold orI; split <;> omega
@[simp] theorem orI_z (b : Int) : orI 0 b = b := by simp [orI]
@[simp] theorem orI_r (a : Int) : orI a 0 = a := by unfold orI; split <;> omega
theorem orI_ne {a b : Int} (h : a ≠ 0) : orI a b = a := by simp [orI, h]
theorem cmpNm_nil : cmpNm [] [] = 0 := by simp [cmpNm, Lib.compareInt]
theorem cmpNm_less (b : List UInt8) (bb : List (List UInt8)) : cmpNm [] (b :: bb) = -1 := by simp only [cmpNm]; exact (cmpI_lt _ _).2 (by simp)
theorem cmpNm_more (a : List UInt8) (aa : List (List UInt8)) : cmpNm (a :: aa) [] = 1 := by simp only [cmpNm]; exact (cmpI_gt _ _).2 (by omega)
theorem cmpNm_cons (a b : List UInt8) (aa bb : List (List UInt8)) : cmpNm (a :: aa) (b :: bb) = orI (cmpB a b) (cmpNm aa bb) := by rw [cmpNm]
theorem cmpNm_neg : ∀ aa bb : List (List UInt8), cmpNm bb aa = -cmpNm aa bb
  | [], [] => by simp [cmpNm_nil]
  | [], b :: bb => by simp [cmpNm_less, cmpNm_more]
  | a :: aa, [] => by simp [cmpNm_less, cmpNm_more]
  | a :: aa, b :: bb => by rw [cmpNm_cons, cmpNm_cons]; exact orI_neg (cmpB_neg a b) (cmpNm_neg aa bb)
theorem cmpNm_range : ∀ aa bb : List (List UInt8), cmpNm aa bb = -1 ∨ cmpNm aa bb = 0 ∨ cmpNm aa bb = 1
  | [], [] => by simp [cmpNm_nil]
  | [], b :: bb => by simp [cmpNm_less]
  | a :: aa, [] => by simp [cmpNm_more]
  | a :: aa, b :: bb => by rw [cmpNm_cons]; exact orI_range (cmpB_cases a b) (cmpNm_range aa bb)
theorem cmpNm_zero : ∀ aa bb : List (List UInt8), cmpNm aa bb = 0 ↔ aa = bb
  | [], [] => by simp [cmpNm_nil]
  | [], b :: bb => by simp [cmpNm_less]
  | a :: aa, [] => by simp [cmpNm_more]
  | a :: aa, b :: bb => by rw [cmpNm_cons, orI_zero, cmpB_eq, cmpNm_zero aa bb]; simp

/-- Of two kinds that are the same. -/
theorem cmpT_kind {t u : Tr Nd} (h : t.nd.kind ≠ u.nd.kind) : cmpT t u = Lib.compareInt t.nd.kind u.nd.kind := by
  cases t with | mk x xs => cases u with | mk y ys =>
    rw [cmpT_mk, orI_ne (a := Lib.compareInt x.kind y.kind) (fun e => h ((cmpI_eq _ _).1 e))]; rfl
theorem cmpT_same {t u : Tr Nd} (h : t.nd.kind = u.nd.kind) : cmpT t u = (if t.nd.kind = 3 then cmpN t.nd.s t.nd.neg t.nd.e u.nd.s u.nd.neg u.nd.e else if t.nd.kind = 4 then cmpB t.nd.s u.nd.s else if t.nd.kind = 5 then cmpTs t.ks u.ks else if t.nd.kind = 6 then orI (cmpNm (nms t.ks) (nms u.ks)) (cmpTs t.ks u.ks) else 0) := by
  cases t with | mk x xs => cases u with | mk y ys =>
    rw [cmpT_mk, show Lib.compareInt x.kind y.kind = 0 from (cmpI_eq _ _).2 h, orI_z]; rfl
theorem cmpT_nmd (a b : List UInt8) (t u : Tr Nd) : cmpT (nmd a t) (nmd b u) = cmpT t u := by
  cases t with | mk x xs => cases u with | mk y ys =>
    show cmpT (.mk (nmN a x) xs) (.mk (nmN b y) ys) = _
    rw [cmpT_mk, cmpT_mk]; rfl

mutual
theorem cmpT_neg : ∀ t u : Tr Nd, cmpT u t = -cmpT t u
  | .mk x xs, .mk y ys => by
    rw [cmpT_mk, cmpT_mk]
    by_cases h : x.kind = y.kind
    · refine orI_neg (cmpI_neg _ _) ?_
      rw [h]
      split
      · exact cmpN_neg _ _ _ _ _ _
      · split
        · exact cmpB_neg _ _
        · split
          · exact cmpTs_neg xs ys
          · split
            · exact orI_neg (cmpNm_neg _ _) (cmpTs_neg xs ys)
            · rfl
    · rw [orI_ne (fun e => h ((cmpI_eq _ _).1 e).symm), orI_ne (fun e => h ((cmpI_eq _ _).1 e))]
      exact cmpI_neg _ _
theorem cmpTs_neg : ∀ ts us : List (Tr Nd), cmpTs us ts = -cmpTs ts us
  | [], [] => by simp
  | [], u :: us => by simp
  | t :: ts, [] => by simp
  | t :: ts, u :: us => by rw [cmpTs_cons, cmpTs_cons]; exact orI_neg (cmpT_neg t u) (cmpTs_neg ts us)
end
mutual
theorem cmpT_range : ∀ t u : Tr Nd, cmpT t u = -1 ∨ cmpT t u = 0 ∨ cmpT t u = 1
  | .mk x xs, .mk y ys => by
    rw [cmpT_mk]
    refine orI_range (cmpI_range _ _) ?_
    split
    · exact cmpN_range _ _ _ _ _ _
    · split
      · exact cmpB_cases _ _
      · split
        · exact cmpTs_range xs ys
        · split
          · exact orI_range (cmpNm_range _ _) (cmpTs_range xs ys)
          · simp
theorem cmpTs_range : ∀ ts us : List (Tr Nd), cmpTs ts us = -1 ∨ cmpTs ts us = 0 ∨ cmpTs ts us = 1
  | [], [] => by simp
  | [], u :: us => by simp
  | t :: ts, [] => by simp
  | t :: ts, u :: us => by rw [cmpTs_cons]; exact orI_range (cmpT_range t u) (cmpTs_range ts us)
end

/-- What three answers ask of one another. -/
def Tri (x y z : Int) : Prop := x ≤ 0 → y ≤ 0 → z ≤ 0 ∧ (z = 0 → x = 0 ∧ y = 0)
theorem Tri.or {a b c a' b' c' : Int} (h : Tri a b c) (h' : a = 0 → b = 0 → c = 0 → Tri a' b' c') : Tri (orI a a') (orI b b') (orI c c') := by
  intro h1 h2
  have ha : a ≤ 0 := by unfold orI at h1; split at h1 <;> omega
  have hb : b ≤ 0 := by unfold orI at h2; split at h2 <;> omega
  obtain ⟨h3, h4⟩ := h ha hb
  by_cases hc : c = 0
  · obtain ⟨e1, e2⟩ := h4 hc
    subst e1 e2 hc
    rw [orI_z] at h1 h2 ⊢
    rw [orI_z, orI_z]
    exact h' rfl rfl rfl h1 h2
  · rw [orI_ne hc]
    exact ⟨h3, fun e => absurd e hc⟩
theorem tri_int (x y z : Int) : Tri (Lib.compareInt x y) (Lib.compareInt y z) (Lib.compareInt x z) := by
  unfold Tri Lib.compareInt; (repeat' split) <;> omega
theorem tri_bytes (a b c : List UInt8) : Tri (cmpB a b) (cmpB b c) (cmpB a c) := by
  intro h1 h2
  have e1 : ¬ b < a := fun h => by rw [(cmpB_gt a b).2 h] at h1; omega
  have e2 : ¬ c < b := fun h => by rw [(cmpB_gt b c).2 h] at h2; omega
  have e3 : ¬ c < a := fun h => by
    have h5 : a ≤ b := List.not_lt.1 e1
    have h6 : b ≤ c := List.not_lt.1 e2
    exact absurd h (List.not_lt.2 (List.le_trans h5 h6))
  refine ⟨?_, fun h => ?_⟩
  · rcases cmpB_cases a c with h | h | h
    · omega
    · omega
    · exact absurd ((cmpB_gt a c).1 h) e3
  · obtain rfl := (cmpB_eq a c).1 h
    have : a = b := by
      rcases cmpB_cases a b with h | h | h
      · exact absurd ((cmpB_lt a b).1 h) e2
      · exact (cmpB_eq a b).1 h
      · exact absurd ((cmpB_gt a b).1 h) e1
    subst this
    exact ⟨(cmpB_eq _ _).2 rfl, (cmpB_eq _ _).2 rfl⟩
theorem tri_num (a : List UInt8) (g : Bool) (x : Int) (b : List UInt8) (g2 : Bool) (y : Int) (c : List UInt8) (g3 : Bool) (z : Int) : Tri (cmpN a g x b g2 y) (cmpN b g2 y c g3 z) (cmpN a g x c g3 z) := by
  intro h1 h2
  refine ⟨cmpN_trans h1 h2, fun h => ?_⟩
  have h3 := cmpN_neg a g x c g3 z
  have h4 := cmpN_trans (a := c) (g := g3) (x := z) (b := a) (g2 := g) (y := x) (c := b) (g3 := g2) (z := y) (by omega) h1
  have h5 := cmpN_trans (a := b) (g := g2) (x := y) (b := c) (g2 := g3) (y := z) (c := a) (g3 := g) (z := x) h2 (by omega)
  have h6 := cmpN_neg b g2 y c g3 z
  have h7 := cmpN_neg a g x b g2 y
  omega
theorem tri_names : ∀ aa bb cc : List (List UInt8), Tri (cmpNm aa bb) (cmpNm bb cc) (cmpNm aa cc)
  | [], [], cc => by intro h1 h2; exact ⟨h2, fun h => ⟨cmpNm_nil, h⟩⟩
  | [], b :: bb, [] => by intro h1 h2; rw [cmpNm_more] at h2; omega
  | [], b :: bb, c :: cc => by intro _ _; rw [cmpNm_less]; omega
  | a :: aa, [], cc => by intro h1; rw [cmpNm_more] at h1; omega
  | a :: aa, b :: bb, [] => by intro _ h2; rw [cmpNm_more] at h2; omega
  | a :: aa, b :: bb, c :: cc => by rw [cmpNm_cons, cmpNm_cons, cmpNm_cons]; exact (tri_bytes a b c).or fun _ _ _ => tri_names aa bb cc
mutual
theorem cmpT_tri : ∀ t u v : Tr Nd, Tri (cmpT t u) (cmpT u v) (cmpT t v)
  | .mk x xs, .mk y ys, .mk z zs => by
    rw [cmpT_mk, cmpT_mk, cmpT_mk]
    refine (tri_int _ _ _).or fun h1 h2 h3 => ?_
    rw [cmpI_eq] at h1 h2
    rw [h1, h2]
    split
    · exact tri_num _ _ _ _ _ _ _ _ _
    · split
      · exact tri_bytes _ _ _
      · split
        · exact cmpTs_tri xs ys zs
        · split
          · exact (tri_names _ _ _).or fun _ _ _ => cmpTs_tri xs ys zs
          · intro _ _; exact ⟨by omega, fun _ => ⟨rfl, rfl⟩⟩
theorem cmpTs_tri : ∀ ts us vs : List (Tr Nd), Tri (cmpTs ts us) (cmpTs us vs) (cmpTs ts vs)
  | [], [], cc => by intro h1 h2; exact ⟨h2, fun h => ⟨cmpTs_nil, h⟩⟩
  | [], b :: bb, [] => by intro h1 h2; rw [cmpTs_more] at h2; omega
  | [], b :: bb, c :: cc => by intro _ _; rw [cmpTs_less]; omega
  | a :: aa, [], cc => by intro h1; rw [cmpTs_more] at h1; omega
  | a :: aa, b :: bb, [] => by intro _ h2; rw [cmpTs_more] at h2; omega
  | a :: aa, b :: bb, c :: cc => by rw [cmpTs_cons, cmpTs_cons, cmpTs_cons]; exact (cmpT_tri a b c).or fun _ _ _ => cmpTs_tri aa bb cc
end
theorem cmpT_refl (t : Tr Nd) : cmpT t t = 0 := by have := cmpT_neg t t; omega
theorem cmpTs_refl (ts : List (Tr Nd)) : cmpTs ts ts = 0 := by have := cmpTs_neg ts ts; omega

/-- Two right nodes that compare aa one, whose names are the same, are one. -/
theorem plain_one {x y : Nd} (hx : plainN x = true) (hy : plainN y = true) (hn : x.name = y.name) (hk : x.kind = y.kind) (hm : x.many = y.many)
    (h3 : x.kind = 3 → cmpN x.s x.neg x.e y.s y.neg y.e = 0) (h4 : x.kind = 4 → x.s = y.s) : x = y := by
  obtain ⟨k, m, nm, s, g, e⟩ := x
  obtain ⟨k2, m2, nm2, s2, g2, e2⟩ := y
  simp only at hn hk hm h3 h4
  subst hn hk hm
  by_cases c3 : k = 3
  · subst c3
    have hx' : right ⟨3, m, [], s, g, e⟩ = true := hx
    have hy' : right ⟨3, m, [], s2, g2, e2⟩ = true := hy
    obtain ⟨-, -, -, e1, e3, e4⟩ := (cmpN_zero hx' hy').1 (h3 rfl)
    rw [e1, e3, e4]
  · by_cases c4 : k = 4
    · subst c4
      have := h4 rfl
      subst this
      simp [plainN] at hx hy
      simp [hx, hy]
    · unfold plainN at hx hy
      simp only at hx hy
      split at hx
      · rename_i h
        rw [if_pos h] at hy
        simp at hx hy
        simp [hx, hy]
      · rename_i h
        rw [if_neg h, if_neg c3, if_neg c4] at hy
        try rw [if_neg c3, if_neg c4] at hx
        split at hx
        · rename_i h
          rw [if_pos h] at hy
          simp at hx hy
          simp [hx, hy]
        · cases hx
theorem Parts.cons {t : Tr Nd} {ts : List (Tr Nd)} (h : Parts (t :: ts)) : (okT many t ∧ rightT t = true) ∧ Parts ts := ⟨h t (by simp), fun u hu => h u (by simp [hu])⟩
theorem cmpTs_len : ∀ ts us : List (Tr Nd), cmpTs ts us = 0 → ts.length = us.length
  | [], [], _ => rfl
  | [], u :: us, h => by simp at h
  | t :: ts, [], h => by simp at h
  | t :: ts, u :: us, h => by
    rw [cmpTs_cons, orI_zero] at h
    rw [List.length_cons, List.length_cons, cmpTs_len ts us h.2]
theorem nms_none {ts : List (Tr Nd)} (h : ∀ u ∈ ts, u.nd.name = []) : nms ts = List.replicate ts.length [] := by
  induction ts with
  | nil => rfl
  | cons t ts ih => simp only [nms, List.map_cons, List.length_cons, List.replicate_succ]; rw [h t (by simp), ← ih fun u hu => h u (by simp [hu])]
mutual
theorem cmpT_one : ∀ t u : Tr Nd, okT many t → rightT t = true → okT many u → rightT u = true → t.nd.name = u.nd.name → cmpT t u = 0 → t = u
  | .mk x xs, .mk y ys, ht, hrt, hu, hru, hn, h => by
    have V := Val.clr ht hrt
    have U := Val.clr hu hru
    have pV : plainN x = true := by have := V.plain; exact this
    have pU : plainN y = true := by have := U.plain; exact this
    rw [cmpT_mk, orI_zero, cmpI_eq] at h
    obtain ⟨hk, h⟩ := h
    obtain ⟨m1, o1⟩ := okT_mk.1 ht
    obtain ⟨m2, o2⟩ := okT_mk.1 hu
    have hks : xs = ys := by
      by_cases c5 : x.kind = 5
      · rw [if_neg (by omega), if_neg (by omega), if_pos c5] at h
        refine cmpTs_one xs ys V.parts U.parts ?_ h
        have r1 : ∀ u ∈ xs, u.nd.name = [] := V.unnamed c5
        have r2 : ∀ u ∈ ys, u.nd.name = [] := U.unnamed (hk ▸ c5)
        rw [nms_none r1, nms_none r2, cmpTs_len xs ys h]
      · by_cases c6 : x.kind = 6
        · rw [if_neg (by omega), if_neg (by omega), if_neg c5, if_pos c6, orI_zero, cmpNm_zero] at h
          exact cmpTs_one xs ys V.parts U.parts h.1 h.2
        · have e1 := (plainN_many pV).2 c5 c6
          have e2 := (plainN_many pU).2 (by rw [← hk]; exact c5) (by rw [← hk]; exact c6)
          have l1 : xs.length = 0 := by have : x.many = xs.length := m1; omega
          have l2 : ys.length = 0 := by have : y.many = ys.length := m2; omega
          rw [List.eq_nil_of_length_eq_zero l1, List.eq_nil_of_length_eq_zero l2]
    subst hks
    have hxy : x = y := by
      refine plain_one pV pU hn hk ?_ ?_ ?_
      · have a1 : x.many = xs.length := m1
        have a2 : y.many = xs.length := m2
        rw [a1, a2]
      · intro c3; rw [if_pos c3] at h; exact h
      · intro c4; rw [if_neg (by omega), if_pos c4] at h; exact (cmpB_eq _ _).1 h
    rw [hxy]
theorem cmpTs_one : ∀ ts us : List (Tr Nd), Parts ts → Parts us → nms ts = nms us → cmpTs ts us = 0 → ts = us
  | [], [], _, _, _, _ => rfl
  | [], u :: us, _, _, _, h => by simp at h
  | t :: ts, [], _, _, _, h => by simp at h
  | t :: ts, u :: us, ht, hu, hn, h => by
    rw [cmpTs_cons, orI_zero] at h
    obtain ⟨a1, a2⟩ := Parts.cons ht
    obtain ⟨b1, b2⟩ := Parts.cons hu
    simp only [nms, List.map_cons, List.cons.injEq] at hn
    rw [cmpT_one t u a1.1 a1.2 b1.1 b1.2 hn.1 h.1, cmpTs_one ts us a2 b2 hn.2 h.2]
end
/-- The same are just those that are one. -/
theorem cmp_same {t u : Tr Nd} (ht : Val t) (hu : Val u) : cmpT t u = 0 ↔ t = u := by
  constructor
  · intro h
    exact cmpT_one t u ht.ok ht.rt hu.ok hu.rt (ht.nm.trans hu.nm.symm) h
  · rintro rfl; exact cmpT_refl _
end Ov
end Go.Proofs.YtbhgmfddjnkglaaGreatDoor

/-
  Plain words on atoms: which are right, of which nodes they hold, which nodes are members of a mask and atoms, how is said that it is not so. No program stands here.
-/
namespace Go.Proofs.YtbhgmfddjnkglaaGreatDoor
namespace Ap
open Go.RowKit Np Rw Vp Ov

/-- An atom. -/
structure Atm where
  n : Int
  c : Nd
deriving DecidableEq
abbrev leaf (n : Nd) : Tr Nd := .mk n []
theorem flat_leaf (n : Nd) : flat (leaf n) = [n] := by simp [leaf, flat_mk]
def wayP (n : Int) : Bool := decide (0 ≤ n) && decide (n ≤ 5)
/-- Is a node one of a value without parts, without name, and right? -/
def pln (c : Nd) : Bool := decide (c.kind < 5) && rightL [c]
def rightA (a : Atm) : Bool := wayP a.n && pln a.c
/-- Is what is told as n says? -/
def sayP (n told : Int) : Bool := if n = 0 then told == 0 else if n = 1 then told != 0 else if n = 2 then decide (told < 0) else if n = 3 then decide (told ≤ 0) else if n = 4 then decide (0 < told) else decide (0 ≤ told)
def holdsA (n : Nd) (a : Atm) : Bool := sayP a.n (cmpT (leaf n) (leaf a.c))
def letsK (mask kind : Nat) : Bool := mask.testBit kind
def memb (mask : Nat) (l : List Atm) (n : Nd) : Bool := pln n && letsK mask n.kind.toNat && l.all (holdsA n)
def turn (n : Int) : Int := if n = 0 then 1 else if n = 1 then 0 else if n = 2 then 5 else if n = 3 then 4 else if n = 4 then 3 else if n = 5 then 2 else n
def allA (most : Nat) (l : List Atm) : Bool := decide (l.length ≤ most) && l.all fun a => decide (a.c.s.length ≤ 200) && rightA a

theorem rightL_one (n : Nd) : rightL [n] = (decide (n.name = []) && plainN n && decide (n.many ≤ 0)) := by
  rw [rightL, Vp.start, run_cons, run_nil, passH_cons]
  have h1 : lets 5 false [] n.name = decide (n.name = []) := by simp [lets]
  rw [h1]
  by_cases h : 0 < n.many
  · rw [if_pos h]; simp; intro _ _; omega
  · rw [if_neg h]
    have h2 : pop [stepH ⟨5, 1, false, []⟩ n] = [] := by simp [pop, stepH]
    rw [h2]; simp; intro _ _; omega
theorem pln_val {n : Nd} (h : pln n = true) : Val (leaf n) := by
  rw [pln, rightL_one] at h
  simp only [Bool.and_eq_true, decide_eq_true_eq] at h
  obtain ⟨-, ⟨h1, h2⟩, h3⟩ := h
  have h4 := (plainN_many h2).1
  exact ⟨okT_mk.2 ⟨by show n.many = 0; omega, by simp⟩, by rw [rightT_mk, h2]; simp, h1⟩
theorem pln_kind {n : Nd} (h : pln n = true) : n.kind = 0 ∨ n.kind = 1 ∨ n.kind = 2 ∨ n.kind = 3 ∨ n.kind = 4 := by
  rw [pln, rightL_one] at h
  simp only [Bool.and_eq_true, decide_eq_true_eq] at h
  obtain ⟨h0, ⟨h1, h2⟩, h3⟩ := h
  unfold plainN at h2
  split at h2
  · omega
  · split at h2
    · omega
    · split at h2
      · omega
      · split at h2
        · omega
        · cases h2
theorem flat_leaf_len (n : Nd) : (flat (leaf n)).length ≤ 1000000000000 := by rw [flat_leaf]; simp
theorem way_cases {n : Int} (h : wayP n = true) : n = 0 ∨ n = 1 ∨ n = 2 ∨ n = 3 ∨ n = 4 ∨ n = 5 := by
  simp [wayP] at h; omega
theorem turn_way {n : Int} (h : wayP n = true) : wayP (turn n) = true ∧ turn (turn n) = n := by
  rcases way_cases h with rfl | rfl | rfl | rfl | rfl | rfl <;> decide
theorem say_turn {n t : Int} (h : wayP n = true) (ht : t = -1 ∨ t = 0 ∨ t = 1) : sayP (turn n) t = !sayP n t := by
  rcases way_cases h with rfl | rfl | rfl | rfl | rfl | rfl <;> rcases ht with rfl | rfl | rfl <;> decide
theorem holds_turn {a : Atm} {n : Nd} (h : wayP a.n = true) : holdsA n ⟨turn a.n, a.c⟩ = !holdsA n a := say_turn h (cmpT_range _ _)
theorem rightA_way {a : Atm} (h : rightA a = true) : wayP a.n = true := by simp [rightA] at h; exact h.1
theorem rightA_pln {a : Atm} (h : rightA a = true) : pln a.c = true := by simp [rightA] at h; exact h.2
theorem memb_pln {m : Nat} {l : List Atm} {n : Nd} (h : memb m l n = true) : pln n = true := by simp [memb] at h; exact h.1.1
theorem memb_take {m : Nat} {l : List Atm} {n : Nd} (h : memb m l n = true) (i : Nat) : memb m (l.take i) n = true := by
  simp only [memb, Bool.and_eq_true, List.all_eq_true] at h ⊢
  exact ⟨h.1, fun x hx => h.2 x (List.mem_of_mem_take hx)⟩
theorem memb_or (m k : Nat) (l : List Atm) (n : Nd) : memb (m ||| k) l n = (memb m l n || memb k l n) := by
  simp only [memb, letsK, Nat.testBit_or]
  cases pln n <;> cases m.testBit n.kind.toNat <;> cases k.testBit n.kind.toNat <;> cases l.all (holdsA n) <;> rfl
/-- A mask as it is reckoned: halved so often, is it odd? -/
theorem letsK_div (m k : Nat) : letsK m k = decide (m / 2 ^ k % 2 = 1) := by
  rw [letsK, Nat.testBit_eq_decide_div_mod_eq]
theorem allA_mem {m : Nat} {l : List Atm} (h : allA m l = true) : l.length ≤ m ∧ ∀ a ∈ l, a.c.s.length ≤ 200 ∧ rightA a = true := by
  simp only [allA, Bool.and_eq_true, decide_eq_true_eq, List.all_eq_true] at h
  exact h
end Ap
end Go.Proofs.YtbhgmfddjnkglaaGreatDoor

/-
  Words for memory: rows of atoms.
-/
namespace Go.Proofs.YtbhgmfddjnkglaaGreatDoor
open Go.RowKit Np Rw Vp Ap

/-- An atom's value; its seven cells. -/
abbrev ata (t : Atm) : Value := .agg #[.int .i64 t.n, .int .i64 t.c.kind, .int .i64 t.c.many, .string ⟨t.c.name.toArray⟩, .string ⟨t.c.s.toArray⟩, .bool t.c.neg, .int .i64 t.c.e]
def atc (t : Atm) : List Value := [.int .i64 t.n, .int .i64 t.c.kind, .int .i64 t.c.many, .string ⟨t.c.name.toArray⟩, .string ⟨t.c.s.toArray⟩, .bool t.c.neg, .int .i64 t.c.e]
theorem atc_len (t : Atm) : (atc t).length = 7 := rfl
abbrev Ats (w : World) (v : Value) (l : List Atm) : Prop := Row atc 7 w v l
structure At7 (w : World) (g o : Nat) (t : Atm) : Prop where
  c0 : w.cell? ⟨g, o, none⟩ = some (.int .i64 t.n)
  c1 : w.cell? ⟨g, o + 1, none⟩ = some (.int .i64 t.c.kind)
  c2 : w.cell? ⟨g, o + 2, none⟩ = some (.int .i64 t.c.many)
  c3 : w.cell? ⟨g, o + 3, none⟩ = some (.string ⟨t.c.name.toArray⟩)
  c4 : w.cell? ⟨g, o + 4, none⟩ = some (.string ⟨t.c.s.toArray⟩)
  c5 : w.cell? ⟨g, o + 5, none⟩ = some (.bool t.c.neg)
  c6 : w.cell? ⟨g, o + 6, none⟩ = some (.int .i64 t.c.e)
theorem CellsAt.atm {w : World} {g o : Nat} {t : Atm} (h : CellsAt w g o (atc t)) : At7 w g o t := ⟨h 0 _ rfl, h 1 _ rfl, h 2 _ rfl, h 3 _ rfl, h 4 _ rfl, h 5 _ rfl, h 6 _ rfl⟩
theorem At7.below {w w' : World} {g o : Nat} {t : Atm} (h : At7 w g o t) (hg : g < w.heap.size) (hb : Below w.heap.size w w') : At7 w' g o t :=
  ⟨(hb.cell hg).trans h.c0, (hb.cell hg).trans h.c1, (hb.cell hg).trans h.c2, (hb.cell hg).trans h.c3, (hb.cell hg).trans h.c4, (hb.cell hg).trans h.c5, (hb.cell hg).trans h.c6⟩
theorem At7.low {B : Nat} {w w' : World} {g o : Nat} {t : Atm} (h : At7 w g o t) (hg : g < B) (hb : Below B w w') : At7 w' g o t :=
  ⟨(hb.cell (p := ⟨g, o, none⟩) hg).trans h.c0, (hb.cell (p := ⟨g, o + 1, none⟩) hg).trans h.c1, (hb.cell (p := ⟨g, o + 2, none⟩) hg).trans h.c2, (hb.cell (p := ⟨g, o + 3, none⟩) hg).trans h.c3, (hb.cell (p := ⟨g, o + 4, none⟩) hg).trans h.c4, (hb.cell (p := ⟨g, o + 5, none⟩) hg).trans h.c5, (hb.cell (p := ⟨g, o + 6, none⟩) hg).trans h.c6⟩
theorem atom_info : (Tryz.prog.info? 27).map (fun i => (i.zero, i.size, i.bytes)) = some (some (.agg #[.int .i64 0, .int .i64 0, .int .i64 0, .string ⟨#[]⟩, .string ⟨#[]⟩, .bool false, .int .i64 0]), 7, 72) := by kernel_rfl
theorem elAtom : Elem Tryz.prog 22 27 atc 7 72 := by
  obtain ⟨i, hi, hz0, hz1, hz2⟩ := info_parts atom_info
  refine ⟨Tryz.underlying22, ⟨i, _, hi, hz0, hz1, hz2, rfl⟩, by decide, atc_len, fun n u hu => ?_⟩
  simp only [atc, List.mem_cons, List.not_mem_nil, or_false] at hu
  rcases hu with rfl | rfl | rfl | rfl | rfl | rfl | rfl <;> rfl
end Go.Proofs.YtbhgmfddjnkglaaGreatDoor

/-
  Small answers on atoms: which ways to compare there are, how is said that it is not so, whether what is told is as is said: the program's and the document's.
-/
namespace Go.Proofs.YtbhgmfddjnkglaaGreatDoor
open Go.RowKit Np Rw Vp Ap

set_option maxRecDepth 100000 in
theorem turn_any (n : Int) (w : World) : Calls Tryz.prog 12 #[.int .i64 n] w fun e w' => e = .returned (.int .i64 (turn n)) ∧ w' = w := by
  by_cases h : n = 0 ∨ n = 1 ∨ n = 2 ∨ n = 3 ∨ n = 4 ∨ n = 5
  · rcases h with rfl | rfl | rfl | rfl | rfl | rfl
    all_goals
      go_enter Tryz.func12, Tryz.ntmps12
      go_wp2_with fail
      go_ret
      exact ⟨ret_i64 (by simp [turn]), rfl⟩
  · have e0 : (n == 0) = false := by simp; omega
    have e1 : (n == 1) = false := by simp; omega
    have e2 : (n == 2) = false := by simp; omega
    have e3 : (n == 3) = false := by simp; omega
    have e4 : (n == 4) = false := by simp; omega
    have e5 : (n == 5) = false := by simp; omega
    have HS : Hid (turn n = n) := Lib.hid (by unfold turn; rw [if_neg (by omega), if_neg (by omega), if_neg (by omega), if_neg (by omega), if_neg (by omega), if_neg (by omega)])
    clear h
    go_enter Tryz.func12, Tryz.ntmps12
    go_wp2_with fail
    go_ret
    exact ⟨ret_i64 HS.out.symm, rfl⟩
set_option maxRecDepth 100000 in
theorem refTurn_any (n : Int) (w : World) (h : wayP n = true) : Calls Tryz.prog 13 #[.int .i64 n] w fun e w' => e = .returned (.int .i64 (turn n)) ∧ Below w.heap.size w w' := by
  rcases way_cases h with rfl | rfl | rfl | rfl | rfl | rfl
  all_goals
    go_enter Tryz.func13, Tryz.ntmps13
    go_wp2_with fail
    go_ret
    exact ⟨ret_i64 (by simp [turn]), (Below.refl _ _).alloc (Nat.le_refl _) _⟩
set_option maxRecDepth 100000 in
theorem says_any (n told : Int) (w : World) : Calls Tryz.prog 22 #[.int .i64 n, .int .i64 told] w fun e w' => e = .returned (.bool (sayP n told)) ∧ w' = w := by
  by_cases h : n = 0 ∨ n = 1 ∨ n = 2 ∨ n = 3 ∨ n = 4
  · rcases h with rfl | rfl | rfl | rfl | rfl
    all_goals
      go_enter Tryz.func22, Tryz.ntmps22
      go_wp2_with fail
      go_ret
      exact ⟨ret_bool (by simp [sayP]), rfl⟩
  · have e0 : (n == 0) = false := by simp; omega
    have e1 : (n == 1) = false := by simp; omega
    have e2 : (n == 2) = false := by simp; omega
    have e3 : (n == 3) = false := by simp; omega
    have e4 : (n == 4) = false := by simp; omega
    have HS : Hid (sayP n told = decide (0 ≤ told)) := Lib.hid (by unfold sayP; rw [if_neg (by omega), if_neg (by omega), if_neg (by omega), if_neg (by omega), if_neg (by omega)])
    clear h
    go_enter Tryz.func22, Tryz.ntmps22
    go_wp2_with fail
    go_ret
    exact ⟨ret_bool (by rw [HS.out]), rfl⟩
set_option maxRecDepth 100000 in
theorem isWay_any (n : Int) (w : World) : Calls Tryz.prog 17 #[.int .i64 n] w fun e w' => e = .returned (.bool (wayP n)) ∧ Below w.heap.size w w' := by
  have hB : Below w.heap.size w w := Below.refl _ _
  by_cases h1 : 0 ≤ n
  · by_cases h2 : n ≤ 5
    · have HS : Hid (wayP n = true) := Lib.hid (by simp [wayP, h1, h2])
      go_enter Tryz.func17, Tryz.ntmps17
      go_wp2_with fail
      go_ret
      exact ⟨ret_bool (by rw [HS.out]; try simp [h1, h2]), hB⟩
    · have HS : Hid (wayP n = false) := Lib.hid (by simp [wayP, h1, h2])
      go_enter Tryz.func17, Tryz.ntmps17
      go_wp2_with fail
      go_ret
      exact ⟨ret_bool (by rw [HS.out]; try simp [h1, h2]), hB⟩
  · have HS : Hid (wayP n = false) := Lib.hid (by simp [wayP, h1])
    go_enter Tryz.func17, Tryz.ntmps17
    go_wp2_with fail
    go_ret
    exact ⟨ret_bool (by rw [HS.out]; try simp [h1]), hB⟩
end Go.Proofs.YtbhgmfddjnkglaaGreatDoor

/-
  Plain words: an object hangs on no order of its names and parts; with a name twice there is none; what it is, as a tree. No program stands here.
-/
namespace Go.Proofs.YtbhgmfddjnkglaaGreatDoor
open Go.RowKit Np Rw Vp

theorem srt_perm_self (ps : List Pr) : (srt ps).Perm ps := List.mergeSort_perm ps _
theorem keys_nodup_rises : ∀ (ps : List Pr), ps.Pairwise (fun a b => decide (a.1 ≤ b.1) = true) → (ps.map (·.1)).Nodup → rises ps
  | [], _, _ => List.Pairwise.nil
  | a :: ps, h1, h2 => by
    obtain ⟨h3, h4⟩ := List.pairwise_cons.1 h1
    rw [List.map_cons, List.nodup_cons] at h2
    refine List.pairwise_cons.2 ⟨fun b hb => ?_, keys_nodup_rises ps h4 h2.2⟩
    have h5 : a.1 ≤ b.1 := by simpa using h3 b hb
    exact lt_of_ne (List.not_lt.2 h5) (fun e => h2.1 (by rw [e]; exact List.mem_map_of_mem hb))
theorem srt_rises {ps : List Pr} (h : (ps.map (·.1)).Nodup) : rises (srt ps) := by
  refine keys_nodup_rises _ ?_ (((srt_perm_self ps).map _).nodup_iff.2 h)
  exact List.pairwise_mergeSort
    (fun a b c h1 h2 => by simp only [decide_eq_true_eq] at *; exact List.le_trans h1 h2)
    (fun a b => by
      rcases List.le_total a.1 b.1 with h | h
      · simp [h]
      · simp [h]) ps
theorem srt_perm {ps qs : List Pr} (hp : ps.Perm qs) (h : (ps.map (·.1)).Nodup) : srt ps = srt qs :=
  (srt_of ((srt_perm_self ps).trans hp) (srt_rises h)).symm
theorem zip_keys {names : List (List UInt8)} {L : List (List Nd)} (h : names.length = L.length) : (names.zip L).map (·.1) = names := by
  rw [List.map_fst_zip]; omega
theorem objB_iff {names : List (List UInt8)} {L : List (List Nd)} : objB names L = true ↔ names.length = L.length ∧ names.Nodup ∧ ∀ s ∈ names, vld s = true := by
  simp [objB, okNames]
theorem objB_reverse (names : List (List UInt8)) (L : List (List Nd)) : objB names.reverse L.reverse = objB names L := by
  rw [Bool.eq_iff_iff, objB_iff, objB_iff, (List.reverse_perm names).nodup_iff]
  simp
theorem zip_rev (names : List (List UInt8)) (L : List (List Nd)) (h : names.length = L.length) : names.reverse.zip L.reverse = (names.zip L).reverse := by
  apply List.ext_getElem
  · simp
  · intro i h1 h2
    simp [h]
theorem objV_reverse (names : List (List UInt8)) (L : List (List Nd)) : objV names.reverse L.reverse = objV names L := by
  rw [objV, objV, objB_reverse]
  split
  · rename_i h
    obtain ⟨h1, h2, -⟩ := objB_iff.1 h
    rw [List.length_reverse, ← srt_perm (ps := names.zip L) (qs := names.reverse.zip L.reverse) _ (by rw [zip_keys h1]; exact h2)]
    rw [zip_rev _ _ h1]
    exact (List.reverse_perm _).symm
  · rfl
theorem objE_reverse (names : List (List UInt8)) (L : List (List Nd)) : objE names.reverse L.reverse = objE names L := by rw [objE, objE, objB_reverse]
theorem objE_twice (names : List (List UInt8)) (L : List (List Nd)) (a : List UInt8) (ha : a ∈ names) : objE (names ++ [a]) L = 4 := by
  have : objB (names ++ [a]) L = false := by
    cases h : objB (names ++ [a]) L
    · rfl
    · have h2 := (objB_iff.1 h).2.1
      rw [List.nodup_append] at h2
      exact absurd rfl (h2.2.2 a ha a (by simp))
  rw [objE, this]; rfl
theorem objE_cases (names : List (List UInt8)) (L : List (List Nd)) : objB names L = true ∧ objE names L = 0 ∨ objB names L = false ∧ objE names L = 4 := by
  cases h : objB names L <;> simp [objE, h]
theorem objV_bad {names : List (List UInt8)} {L : List (List Nd)} (h : objB names L = false) : objV names L = [] := by rw [objV, h]; rfl
theorem objV_len {names : List (List UInt8)} {L : List (List Nd)} (h : objB names L = true) : (objV names L).length = 1 + (L.map List.length).sum := by
  rw [objV, if_pos h, List.length_cons, laid_len]
  have h1 := (objB_iff.1 h).1
  rw [((srt_perm_self (names.zip L)).map (fun p : Pr => p.2.length)).sum_nat]
  have : (names.zip L).map (fun p : Pr => p.2.length) = L.map List.length := by
    rw [show (fun p : Pr => p.2.length) = List.length ∘ Prod.snd from rfl, ← List.map_map, List.map_snd_zip (by omega)]
  rw [this]; omega

namespace Vp
theorem laid_trees : ∀ ps : List Pr, (∀ p ∈ ps, rightL p.2 = true) → ∃ us, Parts us ∧ us.map (fun u => u.nd.name) = ps.map (·.1) ∧ laid ps = flats us ∧ us.map (fun u => flat (nmd [] u)) = ps.map (·.2)
  | [], _ => ⟨[], by intro t ht; simp at ht, rfl, rfl, rfl⟩
  | p :: ps, h => by
    obtain ⟨us, h1, h2, h3, h4⟩ := laid_trees ps (fun q hq => h q (by simp [hq]))
    obtain ⟨t, ht, he⟩ := val_of_rightL (h p (by simp))
    refine ⟨nmd p.1 t :: us, ?_, by rw [List.map_cons, List.map_cons, h2]; rfl, by rw [laid_cons, flats_cons, flat_nmd, ← he, h3], by rw [List.map_cons, List.map_cons, h4, nmd_val ht, he]⟩
    intro u hu
    rcases List.mem_cons.1 hu with rfl | hu
    · exact ⟨okT_nmd ht.ok, by rw [rightT_nmd]; exact ht.rt⟩
    · exact h1 u hu
theorem objV_tree {names : List (List UInt8)} {L : List (List Nd)} (h : objB names L = true) (hr : ∀ l ∈ L, rightL l = true) :
    ∃ us, Val (objT us) ∧ flat (objT us) = objV names L ∧ us.length = L.length ∧ us.map (fun u => u.nd.name) = (srt (names.zip L)).map (·.1) ∧ us.map (fun u => flat (nmd [] u)) = (srt (names.zip L)).map (·.2) := by
  obtain ⟨h1, h2, h3⟩ := objB_iff.1 h
  obtain ⟨us, h4, h5, h6, h7⟩ := laid_trees (srt (names.zip L)) (fun p hp => by
    have := (srt_perm_self _).mem_iff.1 hp
    exact hr _ (List.of_mem_zip (a := p.1) (b := p.2) this).2)
  have hl : us.length = L.length := by
    have := congrArg List.length h5
    rw [List.length_map, List.length_map, (srt_perm_self _).length_eq, List.length_zip] at this
    omega
  refine ⟨us, val_objT h4 ⟨?_, ?_⟩, by rw [flat_objT, objV, if_pos h, h6, hl], hl, h5, h7⟩
  · have h8 : (us.map (fun u => u.nd.name)).Pairwise (· < ·) := by
      rw [h5]
      exact List.pairwise_map.2 (srt_rises (by rw [zip_keys h1]; exact h2))
    exact List.pairwise_map.1 h8
  · intro t ht
    have h9 : t.nd.name ∈ us.map (fun u => u.nd.name) := List.mem_map_of_mem (f := fun u : Tr Nd => u.nd.name) ht
    rw [h5] at h9
    obtain ⟨p, hp, he⟩ := List.mem_map.1 h9
    rw [← he]
    have := (srt_perm_self _).mem_iff.1 hp
    exact h3 _ (List.of_mem_zip (a := p.1) (b := p.2) this).1
end Vp
end Go.Proofs.YtbhgmfddjnkglaaGreatDoor
