/-
  Joined: EvP, EvM, Ev1, Ev2, Ev3.
-/
import Derived.Test.YtldioobbfkaebaaGreatDoorEvalHoldsJ2
import Derived.Test.YtldioobbfkaebaaGreatDoorEvalHoldsJ7
import Derived.Test.YtldioobbfkaebaaGreatDoorEvalHoldsJ8
import Derived.Test.YtldioobbfkaebaaGreatDoorEvalHoldsJ12
import Derived.Test.YtldioobbfkaebaaGreatDoorEvalHoldsJ6
import Derived.Test.YtldioobbfkaebaaGreatDoorEvalHoldsJ1
import Derived.Shelf.Abstract
import Derived.Deep.RegionHeld3
import Derived.Deep.RegionLaw
set_option maxHeartbeats 2000000
set_option maxRecDepth 100000
namespace Go.Proofs.YtldioobbfkaebaaGreatDoor
section
namespace Ev
open Go.RowKit Np Rw Vp Pw
def nullT : Tr Nd := .mk zeroN []
theorem nullT_val : Val nullT := ⟨okT_mk.2 ⟨rfl, by simp⟩, by decide, rfl⟩
def withK (t : Tr Nd) (ks : List (Tr Nd)) : Tr Nd := .mk { t.nd with many := ks.length } ks
theorem withK_self {t : Tr Nd} (h : okT many t) : withK t t.ks = t := by
 obtain ⟨n, ks⟩ := t
 have := (okT_mk.1 h).1
 have h' : n.many = ks.length := this
 obtain ⟨k, m, nm, s, g, e⟩ := n
 simp only at h'
 subst h'
 rfl
inductive Rz where
 | ok (t : Tr Nd)
 | bad (e : Int)
def ofO : Option (Tr Nd) → Rz
 | none => .bad 5
 | some t => .ok t
def asks (s : St) (t : Tr Nd) : Bool := decide (t.nd.kind = 0 ∨ t.nd.kind = stKind s)
def stepE (s : St) (t : Tr Nd) : Option (Tr Nd) :=
 if asks s t = true then some (match kid s t with | none => nullT | some k => nmd [] (t.ks.getD k nullT)) else none
def alongE : List St → Tr Nd → Option (Tr Nd)
 | [], t => some t
 | s :: p, t => match stepE s t with
  | none => none
  | some u => alongE p u
def cutE : List St → Tr Nd → Option (Tr Nd)
 | [], _ => some nullT
 | s :: p, t => if asks s t = true then
   match kid s t with
   | none => some t
   | some k => if p = [] then some (withK t (t.ks.eraseIdx k)) else
    match cutE p (t.ks.getD k nullT) with
    | none => none
    | some y => some (withK t (t.ks.set k y))
  else none
theorem kid_at {s : St} {t : Tr Nd} {k : Nat} (h : kid s t = some k) : ∃ u, t.ks[k]? = some u ∧ t.ks.getD k nullT = u ∧ u ∈ t.ks ∧ lead s k u.nd.name = true ∧ k < t.ks.length ∧ t.nd.kind = stKind s := by
 obtain ⟨h1, h2, u, h3, h4⟩ := kid_lt h
 exact ⟨u, h3, by simp [List.getD, h3], List.mem_of_getElem? h3, h4, h1, h2⟩
theorem kid_null {s : St} {t : Tr Nd} (h : t.nd.kind = 0) : kid s t = none := by
 unfold kid
 rw [if_neg (by rw [h]; unfold stKind; split <;> decide)]
theorem step_nullT (s : St) : stepE s nullT = some nullT := by
 have h : kid s nullT = none := kid_null rfl
 unfold stepE
 rw [h, if_pos (by simp [asks, nullT])]
theorem along_nullT : ∀ p : List St, alongE p nullT = some nullT
 | [] => rfl
 | s :: p => by rw [alongE, step_nullT]; exact along_nullT p
def Rgt (t : Tr Nd) : Prop := okT many t ∧ rightT t = true
theorem Rgt.val {t : Tr Nd} (h : Rgt t) (hn : t.nd.name = []) : Val t := ⟨h.1, h.2, hn⟩
theorem Rgt.clr {t : Tr Nd} (h : Rgt t) : Val (nmd [] t) := Val.clr h.1 h.2
theorem rgt_of {t : Tr Nd} (h : Val t) : Rgt t := ⟨h.ok, h.rt⟩
theorem Rgt.kid {t u : Tr Nd} (h : Rgt t) (hu : u ∈ t.ks) : Rgt u := val_kids h.clr u hu
theorem step_val {s : St} {t u : Tr Nd} (h : Rgt t) (he : stepE s t = some u) : Val u := by
 unfold stepE at he
 split at he
 ·injection he with he
  subst he
  cases hk : Pw.kid s t with
  | none => exact nullT_val
  | some k =>
   obtain ⟨u, -, hg, hm, -⟩ := kid_at hk
   simp only [hg]
   exact (h.kid hm).clr
 ·cases he
theorem along_val : ∀ (p : List St) {t u : Tr Nd}, Val t → alongE p t = some u → Val u
 | [], t, u, h, he => by simp [alongE] at he; subst he; exact h
 | s :: p, t, u, h, he => by
  rw [alongE] at he
  cases hs : stepE s t with
  | none => rw [hs] at he; cases he
  | some x => rw [hs] at he; exact along_val p (step_val (rgt_of h) hs) he
theorem cutE_cons (s : St) (p : List St) (t : Tr Nd) : cutE (s :: p) t = if asks s t = true then
   match Pw.kid s t with
   | none => some t
   | some k => if p = [] then some (withK t (t.ks.eraseIdx k)) else
    match cutE p (t.ks.getD k nullT) with
    | none => none
    | some y => some (withK t (t.ks.set k y))
  else none := by rw [cutE]
theorem cut_name {s : St} {p : List St} {t u : Tr Nd} (h : cutE (s :: p) t = some u) : u.nd.name = t.nd.name := by
 rw [cutE_cons] at h
 repeat' split at h
 all_goals first | (injection h with h; subst h; rfl) | cases h
theorem erase_mem {ts : List (Tr Nd)} {k : Nat} {x : Tr Nd} (h : x ∈ ts.eraseIdx k) : x ∈ ts := List.mem_of_mem_eraseIdx h
theorem plainN_many_any {n : Nd} {m : Nat} (h : plainN n = true) (h56 : n.kind = 5 ∨ n.kind = 6) : plainN { n with many := (m : Int) } = true := by
 unfold plainN at h ⊢
 rcases h56 with h5 | h5 <;> simp [h5] at h ⊢ <;> simp [h]
theorem rightKs_set' {kind : Int} {ts : List (Tr Nd)} {k : Nat} {y u : Tr Nd} (h : ts[k]? = some u) (hn : y.nd.name = u.nd.name) (hy : rightT y = true) (hr : rightKs kind false [] ts = true) : rightKs kind false [] (ts.set k y) = true :=
 rightKs_set hy ts false [] k u h hn hr
theorem named_erase {ts : List (Tr Nd)} (k : Nat) (h : Named ts) : Named (ts.eraseIdx k) :=
 ⟨h.1.sublist (List.eraseIdx_sublist ts k), fun t ht => h.2 t (erase_mem ht)⟩
theorem cut_rgt : ∀ (p : List St) {t u : Tr Nd}, Rgt t → cutE p t = some u → Rgt u
 | [], t, u, h, he => by simp [cutE] at he; subst he; exact rgt_of nullT_val
 | s :: p, t, u, h, he => by
  rw [cutE_cons] at he
  split at he
  ·rename_i ha
   cases hk : Pw.kid s t with
   | none => rw [hk] at he; injection he with he; subst he; exact h
   | some k =>
    rw [hk] at he
    obtain ⟨v, hv, hg, hm, -, -, hkd⟩ := kid_at hk
    have h56 : t.nd.kind = 5 ∨ t.nd.kind = 6 := by rw [hkd]; unfold stKind; split <;> simp
    have hr := h.2
    rw [rightT_eq, Bool.and_eq_true] at hr
    have hall := okTs_all.1 (okT_eq.1 h.1).2
    simp only at he
    split at he
    ·injection he with he
     subst he
     refine ⟨okT_mk.2 ⟨rfl, okTs_all.2 fun x hx => hall x (erase_mem hx)⟩, ?_⟩
     rw [withK, rightT_mk, plainN_many_any hr.1 h56, Bool.true_and]
     show rightKs t.nd.kind false [] _ = true
     rcases h56 with h5 | h6
     ·have h1 := hr.2
      rw [h5, rightKs_arr, Bool.and_eq_true, List.all_eq_true] at h1
      have h2 := five_rising _ h1.1
      rw [h5, rightKs_arr, rising_five _ (fun x hx => h2 x (erase_mem hx)), Bool.true_and, List.all_eq_true]
      exact fun x hx => h1.2 x (erase_mem hx)
     ·have h1 := hr.2
      rw [h6, rightKs_obj, Bool.and_eq_true, List.all_eq_true] at h1
      have h2 := named_erase k ((rising_named _).1 h1.1)
      rw [h6, rightKs_obj, (rising_named _).2 h2, Bool.true_and, List.all_eq_true]
      exact fun x hx => h1.2 x (erase_mem hx)
    ·rw [hg] at he
     cases hc : cutE p v with
     | none => rw [hc] at he; cases he
     | some y =>
      rw [hc] at he
      injection he with he
      subst he
      rename_i hp
      obtain ⟨i1, i2⟩ := cut_rgt p (h.kid hm) hc
      have hn : y.nd.name = v.nd.name := by
       cases p with
       | nil => exact absurd rfl hp
       | cons s' p => exact cut_name hc
      refine ⟨okT_mk.2 ⟨rfl, okTs_all.2 fun x hx => ?_⟩, ?_⟩
      ·rcases List.mem_or_eq_of_mem_set hx with hx | rfl
       ·exact hall x hx
       ·exact i1
      ·rw [withK, rightT_mk, plainN_many_any hr.1 h56, Bool.true_and]
       exact rightKs_set' hv hn i2 hr.2
  ·cases he
theorem cut_val {p : List St} {t u : Tr Nd} (h : Val t) (he : cutE p t = some u) : Val u := by
 have h1 := cut_rgt p (rgt_of h) he
 refine h1.val ?_
 cases p with
 | nil => simp [cutE] at he; subst he; rfl
 | cons s p => rw [cut_name he]; exact h.nm
theorem seekN_none (s : St) : ∀ (l : List (List UInt8)) (k : Nat), seekN s l k = none ↔ ∀ i a, l[i]? = some a → lead s (k + i) a = false
 | [], k => by simp [seekN]
 | a :: l, k => by
  rw [seekN]
  constructor
  ·intro h i b hb
   split at h
   ·cases h
   ·rename_i hl
    cases i with
    | zero => simp at hb; subst hb; simpa using hl
    | succ i =>
     have := (seekN_none s l (k + 1)).1 h i b (by simpa using hb)
     rwa [show k + (i + 1) = k + 1 + i by omega]
  ·intro h
   have h0 := h 0 a rfl
   simp only [Nat.add_zero] at h0
   rw [if_neg (by simp [h0])]
   exact (seekN_none s l (k + 1)).2 fun i b hb => by
    have := h (i + 1) b (by simpa using hb)
    rwa [show k + 1 + i = k + (i + 1) by omega]
theorem lead_field {s : St} (h : s.part = false) (k : Nat) (nm : List UInt8) : lead s k nm = decide (nm = s.name) := by unfold lead; simp [h]
theorem step_not {s : St} {t : Tr Nd} (h : asks s t = false) : stepE s t = none := by unfold stepE; rw [h]; simp
theorem rgt_named {t : Tr Nd} (h : Rgt t) (h6 : t.nd.kind = 6) : Named t.ks := h.clr.named h6
end Ev
end
section
open Go.RowKit Np Rw Vp Pw Ev
def RowS (S : Nat → Prop) (w : World) (v : Value) (vs : List Value) : Prop :=
 ∃ (A : Option Addr) (c : Nat), v = .slice A vs.length c ∧ vs.length ≤ c ∧ c ≤ maxLen ∧ (A = none → c = 0) ∧ (0 < vs.length → ∃ g o : Nat, A = some ⟨g, o, none⟩ ∧ S g ∧ g < w.heap.size ∧ ∀ k x, vs[k]? = some x → w.cell? ⟨g, o + k, none⟩ = some x)
theorem RowS.same {S : Nat → Prop} {w w' : World} {v : Value} {vs : List Value} (h : RowS S w v vs) (hs : w.heap.size ≤ w'.heap.size) (hb : ∀ b, S b → b < w.heap.size → w'.heap[b]? = w.heap[b]?) : RowS S w' v vs := by
 obtain ⟨A, c, hv, h1, h2, h3, H⟩ := h
 refine ⟨A, c, hv, h1, h2, h3, fun h0 => ?_⟩
 obtain ⟨g, o, hA, hS, hg, hx⟩ := H h0
 exact ⟨g, o, hA, hS, Nat.lt_of_lt_of_le hg hs, fun k x hk => (World.cell?_of_block (w := w) (a := ⟨g, o + k, none⟩) (hb g hS hg)).trans (hx k x hk)⟩
theorem RowS.mono {S S' : Nat → Prop} {w : World} {v : Value} {vs : List Value} (h : RowS S w v vs) (hs : ∀ b, b < w.heap.size → S b → S' b) : RowS S' w v vs := by
 obtain ⟨A, c, hv, h1, h2, h3, H⟩ := h
 refine ⟨A, c, hv, h1, h2, h3, fun h0 => ?_⟩
 obtain ⟨g, o, hA, hS, hg, hx⟩ := H h0
 exact ⟨g, o, hA, hs g hg hS, hg, hx⟩
theorem RowS.row {S : Nat → Prop} {w : World} {v : Value} {vs : List Value} (h : RowS S w v vs) : Row (fun x => [x]) 1 w v vs := by
 obtain ⟨A, c, hv, h1, h2, h3, H⟩ := h
 refine ⟨A, c, hv, h1, h2, h3, fun h0 => ?_⟩
 obtain ⟨g, o, hA, hS, hg, hx⟩ := H h0
 refine ⟨g, o, hA, hg, fun k x hk j u hu => ?_⟩
 have hj : j = 0 := by
  have := (List.getElem?_eq_some_iff.1 hu).1
  simp at this; omega
 subst hj
 simp at hu; subst hu
 have := hx k x hk
 rwa [Nat.mul_one, Nat.add_zero]
mutual
def TrS (S : Nat → Prop) (w : World) : Tr Nd → Value → Prop
 | .mk n ks, v => ∃ (g : Nat) (m : Int) (sl : Value) (vs : List Value), v = .pointer (some ⟨g, 0, none⟩) ∧ S g ∧ g < w.heap.size ∧ Nd6 w g 0 { n with many := m } ∧ w.cell? ⟨g, 6, none⟩ = some sl ∧ RowS S w sl vs ∧ TrsS S w ks vs
def TrsS (S : Nat → Prop) (w : World) : List (Tr Nd) → List Value → Prop
 | [], [] => True
 | k :: ks, v :: vs => TrS S w k v ∧ TrsS S w ks vs
 | [], _ :: _ => False
 | _ :: _, [] => False
end
theorem TrS_mk {S : Nat → Prop} {w : World} {n : Nd} {ks : List (Tr Nd)} {v : Value} : TrS S w (.mk n ks) v ↔ ∃ (g : Nat) (m : Int) (sl : Value) (vs : List Value), v = .pointer (some ⟨g, 0, none⟩) ∧ S g ∧ g < w.heap.size ∧ Nd6 w g 0 { n with many := m } ∧ w.cell? ⟨g, 6, none⟩ = some sl ∧ RowS S w sl vs ∧ TrsS S w ks vs := by rw [TrS]
theorem TrsS_nil {S : Nat → Prop} {w : World} : TrsS S w [] [] := by rw [TrsS]; trivial
theorem TrsS_cons {S : Nat → Prop} {w : World} {k : Tr Nd} {ks : List (Tr Nd)} {v : Value} {vs : List Value} : TrsS S w (k :: ks) (v :: vs) ↔ TrS S w k v ∧ TrsS S w ks vs := by rw [TrsS]
theorem TrsS_len {S : Nat → Prop} {w : World} : ∀ {ks : List (Tr Nd)} {vs : List Value}, TrsS S w ks vs → vs.length = ks.length
 | [], [], _ => rfl
 | k :: ks, v :: vs, h => by rw [List.length_cons, List.length_cons, TrsS_len (TrsS_cons.1 h).2]
 | [], _ :: _, h => by rw [TrsS] at h; exact h.elim
 | _ :: _, [], h => by rw [TrsS] at h; exact h.elim
theorem TrsS_at {S : Nat → Prop} {w : World} : ∀ {ks : List (Tr Nd)} {vs : List Value}, TrsS S w ks vs → ∀ {i : Nat} {k : Tr Nd}, ks[i]? = some k → ∃ v, vs[i]? = some v ∧ TrS S w k v
 | k :: ks, v :: vs, h, 0, x, hx => by simp at hx; subst hx; exact ⟨v, rfl, (TrsS_cons.1 h).1⟩
 | k :: ks, v :: vs, h, i + 1, x, hx => by
  obtain ⟨u, h1, h2⟩ := TrsS_at (TrsS_cons.1 h).2 (i := i) (k := x) (by simpa using hx)
  exact ⟨u, by simpa using h1, h2⟩
 | [], _, h, i, x, hx => by simp at hx
 | _ :: _, [], h, _, _, _ => by rw [TrsS] at h; exact h.elim
theorem TrsS_of {S : Nat → Prop} {w : World} : ∀ {ks : List (Tr Nd)} {vs : List Value}, vs.length = ks.length → (∀ (i : Nat) (k : Tr Nd) (v : Value), ks[i]? = some k → vs[i]? = some v → TrS S w k v) → TrsS S w ks vs
 | [], [], _, _ => TrsS_nil
 | k :: ks, v :: vs, hl, h => TrsS_cons.2 ⟨h 0 k v rfl rfl, TrsS_of (by simpa using hl) (fun i x y hx hy => h (i + 1) x y (by simpa using hx) (by simpa using hy))⟩
 | [], _ :: _, hl, _ => by simp at hl
 | _ :: _, [], hl, _ => by simp at hl
theorem TrsS_append {S : Nat → Prop} {w : World} {ks ls : List (Tr Nd)} {vs us : List Value} (h1 : TrsS S w ks vs) (h2 : TrsS S w ls us) : TrsS S w (ks ++ ls) (vs ++ us) := by
 have e1 := TrsS_len h1
 refine TrsS_of (by simp [e1, TrsS_len h2]) (fun i k v hk hv => ?_)
 rcases Nat.lt_or_ge i ks.length with h | h
 ·rw [List.getElem?_append_left h] at hk
  rw [List.getElem?_append_left (by omega)] at hv
  obtain ⟨u, hu, h3⟩ := TrsS_at h1 hk
  rw [hv] at hu; injection hu with hu; subst hu; exact h3
 ·rw [List.getElem?_append_right h] at hk
  rw [List.getElem?_append_right (by omega), e1] at hv
  obtain ⟨u, hu, h3⟩ := TrsS_at h2 hk
  rw [hv] at hu; injection hu with hu; subst hu; exact h3
theorem TrsS_sub {S : Nat → Prop} {w : World} {ks ls : List (Tr Nd)} {vs us : List Value} (h : TrsS S w ks vs) (f : Nat → Nat) (hl : us.length = ls.length) (hk : ∀ i, i < ls.length → ls[i]? = ks[f i]?) (hv : ∀ i, i < us.length → us[i]? = vs[f i]?) : TrsS S w ls us := by
 refine TrsS_of hl (fun i k v h1 h2 => ?_)
 have hi := (List.getElem?_eq_some_iff.1 h1).1
 rw [hk i hi] at h1
 rw [hv i (by omega)] at h2
 obtain ⟨u, hu, h3⟩ := TrsS_at h h1
 rw [h2] at hu; injection hu with hu; subst hu; exact h3
theorem TrsS_take {S : Nat → Prop} {w : World} {ks : List (Tr Nd)} {vs : List Value} (h : TrsS S w ks vs) (n : Nat) : TrsS S w (ks.take n) (vs.take n) :=
 TrsS_sub h id (by simp [TrsS_len h]) (fun i hi => by simp at hi; simp [hi]) (fun i hi => by simp at hi; simp [hi])
theorem TrsS_drop {S : Nat → Prop} {w : World} {ks : List (Tr Nd)} {vs : List Value} (h : TrsS S w ks vs) (n : Nat) : TrsS S w (ks.drop n) (vs.drop n) :=
 TrsS_sub h (n + ·) (by simp [TrsS_len h]) (fun i _ => by simp) (fun i _ => by simp)
mutual
theorem TrS.same {S : Nat → Prop} {w w' : World} (hs : w.heap.size ≤ w'.heap.size) (hb : ∀ b, S b → b < w.heap.size → w'.heap[b]? = w.heap[b]?) : ∀ {t : Tr Nd} {v : Value}, TrS S w t v → TrS S w' t v
 | .mk n ks, v, h => by
  obtain ⟨g, m, sl, vs, h1, h2, h3, h4, h5, h6, h7⟩ := TrS_mk.1 h
  have hc : ∀ o, w'.cell? ⟨g, o, none⟩ = w.cell? ⟨g, o, none⟩ := fun o => World.cell?_of_block (w := w) (a := ⟨g, o, none⟩) (hb g h2 h3)
  exact TrS_mk.2 ⟨g, m, sl, vs, h1, h2, Nat.lt_of_lt_of_le h3 hs, ⟨(hc _).trans h4.c0, (hc _).trans h4.c1, (hc _).trans h4.c2, (hc _).trans h4.c3, (hc _).trans h4.c4, (hc _).trans h4.c5⟩, (hc _).trans h5, h6.same hs hb, TrsS.same hs hb h7⟩
theorem TrsS.same {S : Nat → Prop} {w w' : World} (hs : w.heap.size ≤ w'.heap.size) (hb : ∀ b, S b → b < w.heap.size → w'.heap[b]? = w.heap[b]?) : ∀ {ks : List (Tr Nd)} {vs : List Value}, TrsS S w ks vs → TrsS S w' ks vs
 | [], [], _ => TrsS_nil
 | k :: ks, v :: vs, h => by
  obtain ⟨h1, h2⟩ := TrsS_cons.1 h
  exact TrsS_cons.2 ⟨h1.same hs hb, TrsS.same hs hb h2⟩
 | [], _ :: _, h => by rw [TrsS] at h; exact h.elim
 | _ :: _, [], h => by rw [TrsS] at h; exact h.elim
end
mutual
theorem TrS.mono {S S' : Nat → Prop} {w : World} (hs : ∀ b, b < w.heap.size → S b → S' b) : ∀ {t : Tr Nd} {v : Value}, TrS S w t v → TrS S' w t v
 | .mk n ks, v, h => by
  obtain ⟨g, m, sl, vs, h1, h2, h3, h4, h5, h6, h7⟩ := TrS_mk.1 h
  exact TrS_mk.2 ⟨g, m, sl, vs, h1, hs g h3 h2, h3, h4, h5, h6.mono hs, TrsS.mono hs h7⟩
theorem TrsS.mono {S S' : Nat → Prop} {w : World} (hs : ∀ b, b < w.heap.size → S b → S' b) : ∀ {ks : List (Tr Nd)} {vs : List Value}, TrsS S w ks vs → TrsS S' w ks vs
 | [], [], _ => TrsS_nil
 | k :: ks, v :: vs, h => by
  obtain ⟨h1, h2⟩ := TrsS_cons.1 h
  exact TrsS_cons.2 ⟨h1.mono hs, TrsS.mono hs h2⟩
 | [], _ :: _, h => by rw [TrsS] at h; exact h.elim
 | _ :: _, [], h => by rw [TrsS] at h; exact h.elim
end
theorem TrS.below {S : Nat → Prop} {w w' : World} {t : Tr Nd} {v : Value} (h : TrS S w t v) (hb : Below w.heap.size w w') : TrS S w' t v := h.same hb.size (fun b _ hl => hb.block b hl)
theorem TrsS.below {S : Nat → Prop} {w w' : World} {ks : List (Tr Nd)} {vs : List Value} (h : TrsS S w ks vs) (hb : Below w.heap.size w w') : TrsS S w' ks vs := h.same hb.size (fun b _ hl => hb.block b hl)
theorem TrS.opened {S : Nat → Prop} {w : World} {t : Tr Nd} {v : Value} (h : TrS S w t v) : ∃ (g : Nat) (m : Int) (A : Option Addr) (c : Nat) (vs : List Value), v = .pointer (some ⟨g, 0, none⟩) ∧ S g ∧ g < w.heap.size ∧ Nd6 w g 0 { t.nd with many := m } ∧ w.cell? ⟨g, 6, none⟩ = some (.slice A t.ks.length c) ∧ RowS S w (.slice A t.ks.length c) vs ∧ TrsS S w t.ks vs := by
 obtain ⟨n, ks⟩ := t
 obtain ⟨g, m, sl, vs, h1, h2, h3, h4, h5, h6, h7⟩ := TrS_mk.1 h
 have hl := TrsS_len h7
 obtain ⟨A, c, hv, h8⟩ := h6
 rw [hl] at hv
 subst hv
 exact ⟨g, m, A, c, vs, h1, h2, h3, h4, h5, ⟨A, c, by rw [hl]; rfl, h8⟩, h7⟩
abbrev TrA (w : World) (t : Tr Nd) (v : Value) : Prop := TrS (fun _ => True) w t v
theorem TrS.any {S : Nat → Prop} {w : World} {t : Tr Nd} {v : Value} (h : TrS S w t v) : TrA w t v := h.mono (fun _ _ _ => trivial)
abbrev treeO (n : Nd) (m : Int) (sl : Value) : Obj := .cells #[.int .i64 n.kind, .int .i64 m, .string ⟨n.name.toArray⟩, .string ⟨n.s.toArray⟩, .bool n.neg, .int .i64 n.e, sl] 124
theorem TrS.new {S : Nat → Prop} {w : World} {n : Nd} {m : Int} {sl : Value} {vs : List Value} {ks : List (Tr Nd)} {g : Nat} (hg : g = w.heap.size) (hr : RowS S w sl vs) (hk : TrsS S w ks vs) :
  TrS (fun b => S b ∨ w.heap.size ≤ b) (w.alloc (treeO n m sl)) (.mk n ks) (.pointer (some ⟨g, 0, none⟩)) := by
 subst hg
 have hb := (Below.refl w.heap.size w).alloc (Nat.le_refl _) (treeO n m sl)
 refine TrS_mk.2 ⟨w.heap.size, m, sl, vs, rfl, .inr (Nat.le_refl _), by simp, ⟨?_, ?_, ?_, ?_, ?_, ?_⟩, ?_, (hr.same hb.size (fun b _ hl => hb.block b hl)).mono (fun _ _ h => .inl h), (hk.below hb).mono (fun _ _ h => .inl h)⟩ <;> simp [World.cell?_alloc_new]
theorem RowS.nil {S : Nat → Prop} (w : World) : RowS S w (.slice none 0 0) [] := ⟨none, 0, rfl, Nat.le_refl _, Nat.zero_le _, fun _ => rfl, fun h => absurd h (by simp)⟩
theorem RowS.drew {S : Nat → Prop} {w : World} {v : Value} {vs : List Value} (h : RowS S w v vs) : RowS S w.drew v vs := h.same (w' := w.drew) (Nat.le_refl _) (fun _ _ _ => rfl)
theorem TrS.drew {S : Nat → Prop} {w : World} {t : Tr Nd} {v : Value} (h : TrS S w t v) : TrS S w.drew t v := h.same (w := w) (w' := w.drew) (Nat.le_refl _) (fun _ _ _ => rfl)
theorem TrS.drewN {S : Nat → Prop} {w : World} {t : Tr Nd} {v : Value} (h : TrS S w t v) (m : Nat) : TrS S (w.drewN m) t v := h.same (w := w) (w' := w.drewN m) (Nat.le_refl _) (fun _ _ _ => rfl)
theorem TrsS.drewN {S : Nat → Prop} {w : World} {ks : List (Tr Nd)} {vs : List Value} (h : TrsS S w ks vs) (m : Nat) : TrsS S (w.drewN m) ks vs := h.same (w := w) (w' := w.drewN m) (Nat.le_refl _) (fun _ _ _ => rfl)
end
section
open Go.RowKit Np Rw Vp Pw Ev
def Or (S : Nat → Prop) (B : Nat) : Nat → Prop := fun b => S b ∨ B ≤ b
theorem Or.l {S : Nat → Prop} {B b : Nat} (h : S b) : Or S B b := .inl h
theorem Or.mono {S : Nat → Prop} {B B' : Nat} (h : B' ≤ B) {b : Nat} (hb : Or S B b) : Or S B' b := hb.imp id (Nat.le_trans h)
def OutT (S : Nat → Prop) (w : World) (t : Tr Nd) (e : Ending) (w' : World) : Prop := ∃ g : Nat, e = .returned (.pointer (some ⟨g, 0, none⟩)) ∧ TrS (Or S w.heap.size) w' t (.pointer (some ⟨g, 0, none⟩)) ∧ Below w.heap.size w w'
theorem evNull_any (S : Nat → Prop) (w : World) : Calls Tryz.prog 65 #[] w (OutT S w nullT) := by
 have HB := Lib.hid ((Below.refl w.heap.size w).alloc (Nat.le_refl _) (treeO zeroN 0 (.slice none 0 0)))
 have HN := Lib.hid (TrS.new (S := S) (n := zeroN) (m := 0) (ks := []) (g := w.heap.size) rfl (RowS.nil w) TrsS_nil)
 go_enter Tryz.func65, Tryz.ntmps65
 go_wp2_with fail
 go_ret
 exact ⟨_, rfl, HN.out, HB.out⟩
theorem evIs_quiet (g : Nat) (k x : Int) (w : World) (h : w.cell? ⟨g, 0, none⟩ = some (.int .i64 k)) : Calls Tryz.prog 127 #[.pointer (some ⟨g, 0, none⟩), .int .i64 x] w fun e w' => e = .returned (.bool (k == x)) ∧ w' = w := by
 go_enter Tryz.func127, Tryz.ntmps127
 go_wp2_with fail
 go_ret
 exact ⟨rfl, rfl⟩
theorem evHolder_any (s : St) (w : World) : Calls Tryz.prog 142 #[sta s] w fun e w' => e = .returned (.int .i64 (stKind s)) ∧ Below w.heap.size w w' := by
 obtain ⟨p, nm, n⟩ := s
 have HB := Lib.hid ((Below.refl w.heap.size w).alloc (Nat.le_refl _) (.cells #[.bool p, .string ⟨nm.toArray⟩, .int .i64 n] 49))
 cases p
 ·go_enter Tryz.func142, Tryz.ntmps142
  go_wp2_with fail
  go_ret
  exact ⟨rfl, HB.out⟩
 ·go_enter Tryz.func142, Tryz.ntmps142
  go_wp2_with fail
  go_ret
  exact ⟨rfl, HB.out⟩
theorem evHoldName_quiet (g : Nat) (a b : List UInt8) (w : World) (h : w.cell? ⟨g, 2, none⟩ = some (.string ⟨a.toArray⟩)) : Calls Tryz.prog 144 #[.pointer (some ⟨g, 0, none⟩), .string ⟨b.toArray⟩] w fun e w' => e = .returned (.int .i64 (cmpB a b)) ∧ w = w' := by
 have HC := Lib.hid (cmpS_any ⟨a.toArray⟩ ⟨b.toArray⟩ w)
 go_enter Tryz.func144, Tryz.ntmps144
 go_wp2_with fail
 refine HC.out.mono ?_
 rintro e w' ⟨rfl, rfl⟩
 go_wp2_with fail
 go_ret
 exact ⟨rfl, rfl⟩
theorem evNamed_any (S : Nat → Prop) (t : Tr Nd) (v : Value) (nm : List UInt8) (w : World) (h : TrS S w t v) : Calls Tryz.prog 102 #[v, .string ⟨nm.toArray⟩] w (OutT S w (nmd nm t)) := by
 have H := Lib.hid h
 obtain ⟨g, m, A, c, vs, rfl, hS, hg, hn, h6, hr, hk⟩ := h.opened
 obtain ⟨c0, c1, c2, c3, c4, c5⟩ := hn
 simp only [Nat.zero_add] at c0 c1 c2 c3 c4 c5
 have HR := Lib.hid hr
 have HK := Lib.hid hk
 clear h hr hk
 by_cases he : t.nd.name = nm
 ·have HE : Hid (nmd nm t = t) := Lib.hid (by rw [← he]; exact nmd_self t)
  rw [he] at c2
  clear he
  go_enter Tryz.func102, Tryz.ntmps102
  go_wp2_with fail
  go_ret
  exact ⟨_, rfl, by rw [HE.out]; exact H.out.mono (fun _ _ h => .inl h), Below.refl _ _⟩
 ·have e2 : (t.nd.name == nm) = false := by simpa using he
  clear he
  have hb1 := (Below.refl w.heap.size w).alloc (Nat.le_refl _) (.cells #[.int .i64 t.nd.kind, .int .i64 m, .string ⟨nm.toArray⟩, .string ⟨t.nd.s.toArray⟩, .bool t.nd.neg, .int .i64 t.nd.e] 30)
  have HB := Lib.hid (hb1.alloc hb1.size (treeO (nmN nm t.nd) m (.slice A t.ks.length c)))
  have HN : Hid (TrS (Or S w.heap.size) ((w.alloc (.cells #[.int .i64 t.nd.kind, .int .i64 m, .string ⟨nm.toArray⟩, .string ⟨t.nd.s.toArray⟩, .bool t.nd.neg, .int .i64 t.nd.e] 30)).alloc (treeO (nmN nm t.nd) m (.slice A t.ks.length c))) (nmd nm t) (.pointer (some ⟨w.heap.size + 1, 0, none⟩))) :=
   Lib.hid ((TrS.new (S := S) (by simp) (HR.out.same hb1.size (fun b _ hl => hb1.block b hl)) (HK.out.below hb1)).mono (fun b _ h => h.imp id (Nat.le_trans hb1.size)))
  clear hb1
  go_enter Tryz.func102, Tryz.ntmps102
  go_wp2_with fail
  go_region
  all_goals go_wp2_with fail
  go_ret
  exact ⟨_, rfl, HN.out.drew, HB.out.drew⟩
theorem evWith_any (S : Nat → Prop) (t : Tr Nd) (v : Value) (sl : Value) (vs : List Value) (ks : List (Tr Nd)) (w : World) (h : TrS S w t v) (hr : RowS S w sl vs) (hk : TrsS S w ks vs) :
  Calls Tryz.prog 103 #[v, sl] w (OutT S w (withK t ks)) := by
 obtain ⟨g, m, A, c, us, rfl, hS, hg, hn, h6, -, -⟩ := h.opened
 obtain ⟨c0, c1, c2, c3, c4, c5⟩ := hn
 simp only [Nat.zero_add] at c0 c1 c2 c3 c4 c5
 have HN := Lib.hid (TrS.new (n := { t.nd with many := ks.length }) (m := m) (g := w.heap.size) rfl hr hk)
 obtain ⟨B, d, rfl, -⟩ := hr
 have HB := Lib.hid ((Below.refl w.heap.size w).alloc (Nat.le_refl _) (treeO { t.nd with many := ks.length } m (.slice B vs.length d)))
 clear hk
 go_enter Tryz.func103, Tryz.ntmps103
 go_wp2_with fail
 go_ret
 exact ⟨_, rfl, HN.out, HB.out⟩
def flatT (t : Tr Nd) : Tr Nd := .mk { t.nd with many := 0 } []
theorem evFlat_any (S : Nat → Prop) (t : Tr Nd) (v : Value) (w : World) (h : TrS S w t v) :
  Calls Tryz.prog 94 #[v] w fun e w' => e = .returned (.slice (some ⟨w.heap.size + 1, 0, none⟩) 1 1) ∧ Nds w' (.slice (some ⟨w.heap.size + 1, 0, none⟩) 1 1) (flat (flatT t)) ∧ Below w.heap.size w w' := by
 obtain ⟨g, m, A, c, us, rfl, hS, hg, hn, h6, -, -⟩ := h.opened
 obtain ⟨c0, c1, c2, c3, c4, c5⟩ := hn
 simp only [Nat.zero_add] at c0 c1 c2 c3 c4 c5
 have hb1 := (Below.refl w.heap.size w).alloc (Nat.le_refl _) (.cells #[.int .i64 t.nd.kind, .int .i64 0, .string ⟨t.nd.name.toArray⟩, .string ⟨t.nd.s.toArray⟩, .bool t.nd.neg, .int .i64 t.nd.e] 30)
 have HB := Lib.hid (hb1.alloc hb1.size (.cells #[.int .i64 t.nd.kind, .int .i64 0, .string ⟨t.nd.name.toArray⟩, .string ⟨t.nd.s.toArray⟩, .bool t.nd.neg, .int .i64 t.nd.e] 30))
 have HN := Lib.hid (Row.lit ndc_len (w.alloc (.cells #[.int .i64 t.nd.kind, .int .i64 0, .string ⟨t.nd.name.toArray⟩, .string ⟨t.nd.s.toArray⟩, .bool t.nd.neg, .int .i64 t.nd.e] 30)) 30 #[.int .i64 t.nd.kind, .int .i64 0, .string ⟨t.nd.name.toArray⟩, .string ⟨t.nd.s.toArray⟩, .bool t.nd.neg, .int .i64 t.nd.e] [{ t.nd with many := 0 }] (by show 1 ≤ maxLen; decide) rfl)
 rw [show (w.alloc (.cells #[.int .i64 t.nd.kind, .int .i64 0, .string ⟨t.nd.name.toArray⟩, .string ⟨t.nd.s.toArray⟩, .bool t.nd.neg, .int .i64 t.nd.e] 30)).heap.size = w.heap.size + 1 by simp] at HN
 clear hb1
 go_enter Tryz.func94, Tryz.ntmps94
 go_wp2_with fail
 go_ret
 exact ⟨rfl, HN.out, HB.out⟩
end
section
open Go.RowKit Go.Shelf Np Rw Vp Pw Ev
structure Srch (nm : List UInt8) (ks : List (Tr Nd)) (i : Nat) : Prop where
 le : i ≤ ks.length
 lo : ∀ k u, k < i → ks[k]? = some u → u.nd.name < nm
 hi : ∀ k u, i ≤ k → ks[k]? = some u → ¬ u.nd.name < nm
def fnd (nm : List UInt8) (ks : List (Tr Nd)) (i : Nat) : Bool := match ks[i]? with
 | some u => decide (u.nd.name = nm)
 | none => false
theorem rise_lt {ks : List (Tr Nd)} (h : Rise ks) {i k : Nat} {u v : Tr Nd} (hik : i < k) (hu : ks[i]? = some u) (hv : ks[k]? = some v) : u.nd.name < v.nd.name := by
 obtain ⟨h1, h2⟩ := List.getElem?_eq_some_iff.1 hu
 obtain ⟨h3, h4⟩ := List.getElem?_eq_some_iff.1 hv
 rw [← h2, ← h4]
 exact List.pairwise_iff_getElem.1 h i k h1 h3 hik
theorem Srch.kid {s : St} {t : Tr Nd} {i : Nat} (h : Srch s.name t.ks i) (hs : s.part = false) (h6 : t.nd.kind = 6) (hr : Rise t.ks) : kid s t = if fnd s.name t.ks i = true then some i else none := by
 have hk : Pw.kid s t = seekN s (names t.ks) 0 := by unfold Pw.kid; rw [if_pos (by rw [h6]; simp [stKind, hs])]
 rw [hk]
 have hat : ∀ k, (names t.ks)[k]? = (t.ks[k]?).map (fun u : Tr Nd => u.nd.name) := fun k => by rw [names, List.getElem?_map]
 cases hj : seekN s (names t.ks) 0 with
 | some j =>
  obtain ⟨-, h2, a, h3, h4⟩ := seekN_ge s _ _ _ hj
  rw [Nat.sub_zero, hat] at h3
  obtain ⟨u, hu, rfl⟩ := Option.map_eq_some_iff.1 h3
  rw [lead_field hs, decide_eq_true_eq] at h4
  have hji : j = i := by
   rcases Nat.lt_trichotomy j i with hlt | he | hgt
   ·have := h.lo j u hlt hu
    rw [h4] at this
    exact absurd this (List.lt_irrefl _)
   ·exact he
   ·obtain ⟨v, hv⟩ : ∃ v, t.ks[i]? = some v := ⟨_, List.getElem?_eq_getElem (Nat.lt_trans hgt (List.getElem?_eq_some_iff.1 hu).1)⟩
    have h5 := rise_lt hr hgt hv hu
    rw [h4] at h5
    exact absurd h5 (h.hi i v (Nat.le_refl _) hv)
  subst hji
  have : fnd s.name t.ks j = true := by unfold fnd; rw [hu]; simp [h4]
  rw [if_pos this]
 | none =>
  have h1 := (seekN_none s _ _).1 hj
  have : ¬ fnd s.name t.ks i = true := by
   unfold fnd
   cases hu : t.ks[i]? with
   | none => simp
   | some u =>
    have := h1 i u.nd.name (by rw [hat, hu]; rfl)
    rw [lead_field hs] at this
    simpa using this
  rw [if_neg this]
theorem cmpB_neg1 (a b : List UInt8) : decide (cmpB a b < 0) = decide (a < b) := by
 have h := cmpB_lt a b
 by_cases h2 : a < b
 ·rw [h.2 h2]; simp [h2]
 ·have : cmpB a b ≠ -1 := fun e => h2 (h.1 e)
  rcases cmpB_cases a b with h3 | h3 | h3
  ·exact absurd h3 this
  ·simp [h2, h3]
  ·simp [h2, h3]
theorem half_wrap {i j N : Nat} (h : i < j) (hj : j ≤ N) (hN : N ≤ 2 ^ 63 - 1) : wrap64 (IntKind.u64.wrap (wrap64 ((i : Int) + j)) / 2) = ((i + j) / 2 : Nat) := by
 have e : ∀ x : Int, IntKind.u64.wrap x = x % 18446744073709551616 := fun x => rfl
 rw [e]
 unfold wrap64
 omega
theorem bsearch_any (S : Nat → Prop) (ks : List (Tr Nd)) (vs : List Value) (sl : Value) (nm : List UInt8) (w : World) (hr : RowS S w sl vs) (hk : TrsS S w ks vs) (hn : Rise ks) :
  Calls Tryz.prog 143 #[sl, .string ⟨nm.toArray⟩, .func (.func 144) #[] #[]] w fun e w' => ∃ i : Nat, Srch nm ks i ∧ e = .returned (.tuple #[.int .i64 i, .bool (fnd nm ks i)]) ∧ w' = w := by
 have eK : ∀ args w, (callFunc 144 args).run Tryz.prog w = .ok (.enter 144 args) w := enters_of Tryz.func144 (by kernel_rfl) rfl
 obtain ⟨A, c, rfl, hc, hcm, -, H⟩ := hr
 have hl := TrsS_len hk
 have HH := Lib.hid H
 have HK := Lib.hid hk
 have HL := Lib.hid hl
 have HN := Lib.hid hn
 clear H hk hn
 generalize hn : vs.length = N at *
 have HNN := Lib.hid hn
 clear hn hl
 unfold maxLen at hcm
 go_enter Tryz.func143, Tryz.ntmps143
 go_wp2_with fail
 go_loopw [9, 10] (fun iv jv wr => ∃ i j : Nat, i ≤ j ∧ j ≤ N ∧ iv = .int .i64 i ∧ jv = .int .i64 j ∧ Hid ((∀ k u, k < i → ks[k]? = some u → u.nd.name < nm) ∧ (∀ k u, j ≤ k → ks[k]? = some u → ¬ u.nd.name < nm)) ∧ wr = w) (fun iv jv _ => (intOf jv - intOf iv).toNat)
 case atStart => exact ⟨0, N, Nat.zero_le _, Nat.le_refl _, rfl, rfl, Lib.hid ⟨fun k u h => by omega, fun k u h1 h2 => by
  have := (List.getElem?_eq_some_iff.1 h2).1
  have := HL.out; omega⟩, rfl⟩
 case round =>
  obtain ⟨i, j, hij, hjn, rfl, rfl, HI, rfl⟩ := hrel
  by_cases hlt : i < j
  ·have hm := half_wrap hlt hjn (by omega : N ≤ 2 ^ 63 - 1)
   obtain ⟨h1, h2⟩ : i ≤ (i + j) / 2 ∧ (i + j) / 2 < j := by omega
   generalize (i + j) / 2 = m at hm h1 h2
   obtain ⟨g, o, rfl, hS, hg, hx⟩ := HH.out (by omega)
   obtain ⟨u, hu⟩ : ∃ u, ks[m]? = some u := ⟨_, List.getElem?_eq_getElem (by rw [← HL.out]; omega)⟩
   obtain ⟨p, hp, hpt⟩ := TrsS_at HK.out hu
   obtain ⟨g2, m2, A2, c2, us2, rfl, -, hg2, hn2, -, -, -⟩ := hpt.opened
   have a0 := hx m _ hp
   have HU := Lib.hid hu
   have HC := Lib.hid (evHoldName_quiet g2 u.nd.name nm wr (by have := hn2.c2; simpa using this))
   have hd := cmpB_neg1 u.nd.name nm
   clear hu hpt hn2 hp hx
   go_wp2_with fail
   refine HC.out.mono ?_
   rintro e w' ⟨rfl, rfl⟩
   by_cases hl2 : u.nd.name < nm
   ·have hd2 : decide (cmpB u.nd.name nm < 0) = true := by rw [hd]; simp [hl2]
    have HX : Hid ((∀ k v, k < m + 1 → ks[k]? = some v → v.nd.name < nm) ∧ (∀ k v, j ≤ k → ks[k]? = some v → ¬ v.nd.name < nm)) := Lib.hid ⟨fun k v hk hv => by
     rcases Nat.lt_or_ge k m with h | h
     ·exact List.lt_trans (rise_lt HN.out h hv HU.out) hl2
     ·obtain rfl : k = m := by omega
      have := HU.out; rw [hv] at this; injection this with this; subst this; exact hl2, HI.out.2⟩
    clear hl2 hd
    go_wp2_with fail
    go_roundw
    case rel => exact ⟨m + 1, j, by omega, hjn, by go_num, rfl, HX, trivial⟩
    case measure => simp [intOf]; omega
   ·have hd2 : decide (cmpB u.nd.name nm < 0) = false := by rw [hd]; simp [hl2]
    have HX : Hid ((∀ k v, k < i → ks[k]? = some v → v.nd.name < nm) ∧ (∀ k v, m ≤ k → ks[k]? = some v → ¬ v.nd.name < nm)) := Lib.hid ⟨HI.out.1, fun k v hk hv => by
     rcases Nat.lt_or_ge m k with h | h
     ·exact fun h3 => hl2 (List.lt_trans (rise_lt HN.out h HU.out hv) h3)
     ·obtain rfl : k = m := by omega
      have := HU.out; rw [hv] at this; injection this with this; subst this; exact hl2⟩
    clear hl2 hd
    go_wp2_with fail
    go_roundw
    case rel => exact ⟨i, m, by omega, by omega, rfl, rfl, HX, trivial⟩
    case measure => simp [intOf]; omega
  ·obtain rfl : i = j := by omega
   have HS : Hid (Srch nm ks i) := Lib.hid ⟨by have := HL.out; omega, HI.out.1, HI.out.2⟩
   by_cases hin : i < N
   ·obtain ⟨g, o, rfl, hS, hg, hx⟩ := HH.out (by omega)
    obtain ⟨u, hu⟩ : ∃ u, ks[i]? = some u := ⟨_, List.getElem?_eq_getElem (by rw [← HL.out]; omega)⟩
    obtain ⟨p, hp, hpt⟩ := TrsS_at HK.out hu
    obtain ⟨g2, m2, A2, c2, us2, rfl, -, hg2, hn2, -, -, -⟩ := hpt.opened
    have a0 := hx i _ hp
    have HU := Lib.hid hu
    have HC := Lib.hid (evHoldName_quiet g2 u.nd.name nm wr (by have := hn2.c2; simpa using this))
    have HF : Hid ((cmpB u.nd.name nm == 0) = fnd nm ks i) := Lib.hid (by
     unfold fnd
     rw [hu]
     have := cmpB_eq u.nd.name nm
     by_cases h : u.nd.name = nm
     ·rw [this.2 h]; simp [h]
     ·simp [h]
      exact fun e => h (this.1 e))
    clear hu hpt hn2 hp hx
    go_wp2_with fail
    refine HC.out.mono ?_
    rintro e w' ⟨rfl, rfl⟩
    go_wp2_with fail
    rw [HF.out]
    go_ret2
    exact ⟨i, HS.out, rfl, rfl⟩
   ·have HF : Hid (fnd nm ks i = false) := Lib.hid (by
     unfold fnd
     rw [List.getElem?_eq_none (by rw [← HL.out]; omega)])
    go_wp2_with fail
    go_ret2
    exact ⟨i, HS.out, by rw [HF.out]; rfl, rfl⟩
end
section
open Go.RowKit Go.Shelf Np Rw Vp Pw Ev
theorem seek_partE {s : St} {n : Nat} (hs : s.part = true) (hn : s.n = n) : ∀ (l : List (List UInt8)) (k : Nat), k ≤ n → seekN s l k = if n < k + l.length then some n else none
 | [], k, h => by rw [seekN, if_neg (by simp; omega)]
 | a :: l, k, h => by
  rw [seekN]
  have hl : lead s k a = decide ((k : Int) = s.n) := by unfold lead; simp [hs]
  rw [hl, hn]
  by_cases he : k = n
  ·subst he
   rw [if_pos (by simp), if_pos (by simp)]
  ·rw [if_neg (by simp; omega), seek_partE hs hn l (k + 1) (by omega), List.length_cons]
   congr 1
   simp only [eq_iff_iff]
   omega
theorem kid_partE {s : St} {t : Tr Nd} {n : Nat} (hs : s.part = true) (hn : s.n = n) : kid s t = if t.nd.kind = 5 then (if n < t.ks.length then some n else none) else none := by
 unfold kid stKind
 rw [hs, seek_partE hs hn _ 0 (Nat.zero_le _)]
 simp [names]
def plcV (s : St) (t : Tr Nd) : Int × Int := if asks s t = true then (match kid s t with | none => (-1, 0) | some k => (k, 0)) else (-1, 5)
theorem rgt_leaf {t : Tr Nd} (h : Rgt t) (h0 : t.nd.kind = 0) : t.ks = [] := by
 have := h.clr.leaf (t := nmd [] t) (by show t.nd.kind ≠ 5; omega) (by show t.nd.kind ≠ 6; omega)
 exact this
theorem plcV_bad {s : St} {t : Tr Nd} (h : asks s t = false) : plcV s t = (-1, 5) := by unfold plcV; rw [h]; rfl
theorem plcV_ok {s : St} {t : Tr Nd} (h : asks s t = true) : plcV s t = (match kid s t with | none => (-1, 0) | some k => ((k : Int), (0 : Int))) := by unfold plcV; rw [if_pos h]
structure Plc (w : World) (b g : Nat) (s : St) (k : Int) (sl : Value) (W : World) : Prop where
 q0 : W.cell? ⟨b, 0, none⟩ = some (.bool s.part)
 q1 : W.cell? ⟨b, 1, none⟩ = some (.string ⟨s.name.toArray⟩)
 q2 : W.cell? ⟨b, 2, none⟩ = some (.int .i64 s.n)
 c0 : W.cell? ⟨g, 0, none⟩ = some (.int .i64 k)
 c6 : W.cell? ⟨g, 6, none⟩ = some sl
 hb : Below w.heap.size w W
theorem Plc.below {w W W' : World} {b g : Nat} {s : St} {k : Int} {sl : Value} (h : Plc w b g s k sl W) (hb : Below W.heap.size W W') : Plc w b g s k sl W' :=
 ⟨(hb.cell (World.block_lt_of_cell? _ _ h.q0)).trans h.q0, (hb.cell (World.block_lt_of_cell? _ _ h.q1)).trans h.q1, (hb.cell (World.block_lt_of_cell? _ _ h.q2)).trans h.q2, (hb.cell (World.block_lt_of_cell? _ _ h.c0)).trans h.c0, (hb.cell (World.block_lt_of_cell? _ _ h.c6)).trans h.c6, h.hb.trans (hb.mono h.hb.size)⟩
theorem evPlace_any (S : Nat → Prop) (t : Tr Nd) (v : Value) (s : St) (w : World) (h : TrS S w t v) (ht : Rgt t) (hs : rightS s = true) :
  Calls Tryz.prog 101 #[v, sta s] w fun e w' => e = .returned (.tuple #[.int .i64 (plcV s t).1, .int .i64 (plcV s t).2]) ∧ Below w.heap.size w w' := by
 have hb := (Below.refl w.heap.size w).alloc (Nat.le_refl _) (.cells #[.bool s.part, .string ⟨s.name.toArray⟩, .int .i64 s.n] 49)
 obtain ⟨g, m, A, c, vs, rfl, hS, hg, hn, h6, hr, hk⟩ := h.opened
 have HP : Hid (Plc w w.heap.size g s t.nd.kind (.slice A t.ks.length c) (w.alloc (.cells #[.bool s.part, .string ⟨s.name.toArray⟩, .int .i64 s.n] 49))) := Lib.hid
  ⟨by simp [World.cell?_alloc_new], by simp [World.cell?_alloc_new], by simp [World.cell?_alloc_new], (hb.cell hg).trans hn.c0, (hb.cell hg).trans h6, hb⟩
 have HBS : Hid (∀ W, Below w.heap.size w W → s.part = false → Rise t.ks → Calls Tryz.prog 143 #[.slice A t.ks.length c, .string ⟨s.name.toArray⟩, .func (.func 144) #[] #[]] W fun e w' => ∃ i : Nat, Srch s.name t.ks i ∧ e = .returned (.tuple #[.int .i64 i, .bool (fnd s.name t.ks i)]) ∧ w' = W) :=
  Lib.hid (fun W hW _ hn => bsearch_any S t.ks vs _ s.name W (hr.same hW.size (fun b _ hl => hW.block b hl)) (hk.below hW) hn)
 have HHO := Lib.hid (fun (W : World) => evHolder_any s W)
 have hlen : t.ks.length ≤ 2 ^ 63 - 1 := by
  have := hr.row.len
  rw [TrsS_len hk] at this
  exact this
 have HRT := Lib.hid ht
 have HRS := Lib.hid hs
 clear h hn h6 hr hk ht hb hs
 have HI := Lib.hid (fun (W : World) (x : Int) (hW : Plc w w.heap.size g s t.nd.kind (.slice A t.ks.length c) W) => evIs_quiet g t.nd.kind x W hW.c0)
 have hask : asks s t = (t.nd.kind == 0 || t.nd.kind == stKind s) := by unfold asks; by_cases h1 : t.nd.kind = 0 <;> by_cases h2 : t.nd.kind = stKind s <;> simp [h1, h2]
 have HLF := rgt_leaf HRT.out
 obtain ⟨n0, hn0⟩ : ∃ n0 : Nat, s.n = n0 := by
  have := HRS.out
  unfold rightS at this
  split at this
  ·simp only [Bool.and_eq_true, decide_eq_true_eq] at this
   exact ⟨s.n.toNat, by omega⟩
  ·simp at this
   exact ⟨0, this.1⟩
 have HV1 := Lib.hid (plcV_bad (s := s) (t := t))
 have HTP : Hid (asks s t = true → s.part = true → plcV s t = if n0 < t.ks.length then ((n0 : Int), (0 : Int)) else (-1, 0)) := Lib.hid (fun ha hp => by
  rw [plcV_ok ha, kid_partE hp hn0]
  by_cases h0 : t.nd.kind = 0
  ·rw [HLF h0, if_neg (by omega)]; simp
  ·have h5 : t.nd.kind = 5 := by
    rw [hask] at ha
    simp [h0] at ha
    rw [ha]; simp [stKind, hp]
   rw [if_pos h5]
   by_cases hl : n0 < t.ks.length
   ·rw [if_pos hl, if_pos hl]
   ·rw [if_neg hl, if_neg hl])
 have HFP : Hid (asks s t = true → s.part = false → Rise t.ks ∧ ∀ i, Srch s.name t.ks i → plcV s t = if fnd s.name t.ks i = true then ((i : Int), (0 : Int)) else (-1, 0)) := Lib.hid (fun ha hp => by
  by_cases h0 : t.nd.kind = 0
  ·have hks := HLF h0
   refine ⟨by rw [hks]; exact List.Pairwise.nil, fun i _ => ?_⟩
   have : fnd s.name t.ks i = false := by rw [hks]; rfl
   rw [plcV_ok ha, kid_null h0, this]; rfl
  ·have h6 : t.nd.kind = 6 := by
    rw [hask] at ha
    simp [h0] at ha
    rw [ha]; simp [stKind, hp]
   have hr := (rgt_named HRT.out h6).1
   refine ⟨hr, fun i hi => ?_⟩
   rw [plcV_ok ha, hi.kid hp h6 hr]
   cases fnd s.name t.ks i <;> rfl)
 clear HLF
 generalize plcV s t = ans at *
 generalize asks s t = ask at *
 generalize stKind s = sk at *
 generalize t.ks.length = N at *
 generalize hkind : t.nd.kind = K at *
 clear hkind HRT HRS
 have HASK := Lib.hid hask
 clear hask
 obtain ⟨p, nm, n⟩ := s
 simp only at hn0 HTP HFP HBS
 subst hn0
 have g0 : decide ((0 : Int) ≤ (n0 : Int)) = true := by simp
 go_enter Tryz.func101, Tryz.ntmps101
 go_wp2_with fail
 refine (HI.out _ 0 HP.out).mono ?_
 rintro e w1 ⟨rfl, rfl⟩
 generalize w.alloc (.cells #[.bool p, .string ⟨nm.toArray⟩, .int .i64 (n0 : Int)] 49) = W1 at HP ⊢
 obtain ⟨q0, q1, q2, c0, c6, hb1⟩ := HP.out
 cases hk0 : (K == 0)
 ·go_wp2_with fail
  refine (HHO.out W1).mono ?_
  rintro e w2 ⟨rfl, hb2⟩
  have HP2 := Lib.hid (HP.out.below hb2)
  clear q0 q1 q2 c0 c6 hb1 hb2
  obtain ⟨q0, q1, q2, c0, c6, hb1⟩ := HP2.out
  go_wp2_with fail
  refine (HI.out _ sk HP2.out).mono ?_
  rintro e w3 ⟨rfl, rfl⟩
  cases hk1 : (K == sk)
  ·have he := HV1.out (by rw [HASK.out, hk0, hk1]; rfl)
   subst he
   go_wp2_with fail
   go_ret2
   exact ⟨rfl, hb1⟩
  ·have HA : Hid (ask = true) := Lib.hid (by rw [HASK.out, hk1]; simp)
   clear hk0 hk1
   cases p
   ·obtain ⟨hrise, hfx⟩ := HFP.out HA.out rfl
    have HFX := Lib.hid hfx
    have HBX := Lib.hid (fun W hW => HBS.out W hW rfl hrise)
    clear hfx HFP HTP HBS
    go_wp2_with fail
    go_quiet (fail)
    go_wp2_with fail
    go_region_with (go_at_call 143; refine (HBX.out _ (drewN_below hb1 _).drew).mono ?_; rintro e w5 ⟨i, hi, rfl, rfl⟩)
    all_goals
     have he := HFX.out i hi
     cases hf : fnd nm t.ks i
     ·rw [hf, if_neg (by simp)] at he
      subst he
      go_wp2_with fail
      go_ret2
      exact ⟨rfl, drewN_below hb1 _⟩
     ·rw [hf, if_pos rfl] at he
      subst he
      go_wp2_with fail
      go_ret2
      exact ⟨rfl, drewN_below hb1 _⟩
   ·have he := HTP.out HA.out rfl
    clear HFP HTP HBS
    by_cases hl : n0 < N
    ·rw [if_pos hl] at he
     subst he
     have g1 : decide (n0 < N) = true := by simp [hl]
     clear hl
     go_wp2_with fail
     go_quiet (fail)
     go_wp2_with fail
     go_ret2
     exact ⟨rfl, drewN_below hb1 _⟩
    ·rw [if_neg hl] at he
     subst he
     have g1 : decide (n0 < N) = false := by simp; omega
     clear hl
     go_wp2_with fail
     go_quiet (fail)
     go_wp2_with fail
     go_ret2
     exact ⟨rfl, drewN_below hb1 _⟩
 ·have HA : Hid (ask = true) := Lib.hid (by rw [HASK.out, hk0]; rfl)
  clear hk0
  cases p
  ·obtain ⟨hrise, hfx⟩ := HFP.out HA.out rfl
   have HFX := Lib.hid hfx
   have HBX := Lib.hid (fun W hW => HBS.out W hW rfl hrise)
   clear hfx HFP HTP HBS
   go_wp2_with fail
   go_quiet (fail)
   go_wp2_with fail
   go_region_with (go_at_call 143; refine (HBX.out _ (drewN_below hb1 _).drew).mono ?_; rintro e w5 ⟨i, hi, rfl, rfl⟩)
   all_goals
    have he := HFX.out i hi
    cases hf : fnd nm t.ks i
    ·rw [hf, if_neg (by simp)] at he
     subst he
     go_wp2_with fail
     go_ret2
     exact ⟨rfl, drewN_below hb1 _⟩
    ·rw [hf, if_pos rfl] at he
     subst he
     go_wp2_with fail
     go_ret2
     exact ⟨rfl, drewN_below hb1 _⟩
  ·have he := HTP.out HA.out rfl
   clear HFP HTP HBS
   by_cases hl : n0 < N
   ·rw [if_pos hl] at he
    subst he
    have g1 : decide (n0 < N) = true := by simp [hl]
    clear hl
    go_wp2_with fail
    go_quiet (fail)
    go_wp2_with fail
    go_ret2
    exact ⟨rfl, drewN_below hb1 _⟩
   ·rw [if_neg hl] at he
    subst he
    have g1 : decide (n0 < N) = false := by simp; omega
    clear hl
    go_wp2_with fail
    go_quiet (fail)
    go_wp2_with fail
    go_ret2
    exact ⟨rfl, drewN_below hb1 _⟩
end
end Go.Proofs.YtldioobbfkaebaaGreatDoor
