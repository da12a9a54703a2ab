/-
  Joined: PrS, TxW, RefW2, RefW7, RefW8, TxX, TxY, VOpen, TextBackCard.
-/
import Derived.Test.YtbgciajfjllciaaGreatDoorTextDeepJ19
import Derived.Test.YtbgciajfjllciaaGreatDoorTextDeepJ11
import Derived.Test.YtbgciajfjllciaaGreatDoorMem
import Derived.Outline
import Derived.Test.YtbgciajfjllciaaGreatDoorTextDeepJ8
import Derived.Test.YtbgciajfjllciaaGreatDoorTextDeepJ1
import Derived.Test.YtbgciajfjllciaaGreatDoorRefW6
import Derived.Test.YtbgciajfjllciaaGreatDoorTextDeepJ18
import Derived.ProofKit
import Derived.LaidMore
import Derived.OpenShut
import Derived.Lay
import Derived.Carry
import Derived.SevenTiedAt
import Derived.Stop.Joined
import Derived.Deep.Slices
import Derived.Deep.Fields

/-
  Plain words: how long a number is written. No program stands here.
-/
namespace Go.Proofs.YtbgciajfjllciaaGreatDoor
open Go.RowKit Np

theorem print_short (f : List UInt8) (g : Bool) (e : Int) (h1 : -9223372036854775808 ≤ e) (h2 : e ≤ 9223372036854775807) : (printN f g e).length ≤ f.length + 60 := by
  have hS : (printS f e).length ≤ f.length + 50 := by
    unfold printS
    split
    · simp
    split
    · rw [List.length_append, Lib.repeatL_length]; simp; omega
    split
    · have h := padF_le f (-e).toNat
      have h2 := padF_len f (-e).toNat
      unfold pointF
      simp only [List.length_append, List.length_take, List.length_cons, List.length_drop]
      omega
    · have := Lib.itoa_length_le e h1 h2
      simp only [List.length_append, List.length_cons]
      omega
  unfold printN
  split
  · simp only [List.length_cons]; omega
  · omega
end Go.Proofs.YtbgciajfjllciaaGreatDoor

/-
  Plain words: what is read is a right value, not too deep; how long its texts are. No program stands here.
-/
namespace Go.Proofs.YtbgciajfjllciaaGreatDoor
namespace Tp
open Go.RowKit Np Rw Vp Up Qp

/-- What a node's strings are written as. -/
def wN (n : Nd) : Nat := (wrs n.name).length + (if n.kind = 4 then (wrs n.s).length else 0)
def wS (l : List Nd) : Nat := (l.map wN).sum
theorem wS_nil : wS [] = 0 := rfl
theorem wS_cons (n : Nd) (l : List Nd) : wS (n :: l) = wN n + wS l := by simp [wS]
theorem wS_append (a b : List Nd) : wS (a ++ b) = wS a + wS b := by simp [wS]
theorem wN_hd (k : Int) (m : Nat) (hk : k ≠ 4) : wN (hdN k m) = 0 := by simp [wN, hdN, wrs, hk]
theorem wS_set (nm : List UInt8) (l : List Nd) : wS (setNm nm l) ≤ (wrs nm).length + wS l := by
  cases l with
  | nil => simp [setNm, wS]
  | cons n l =>
    rw [setNm, wS_cons, wS_cons]
    simp only [wN]
    omega
theorem wS_laid : ∀ ps : List Pr, wS (laid ps) ≤ (ps.map fun p => (wrs p.1).length + wS p.2).sum
  | [] => by simp [laid, wS]
  | p :: ps => by
    have h1 := wS_laid ps
    have h2 := wS_set p.1 p.2
    rw [laid_cons, wS_append, List.map_cons, List.sum_cons]
    omega
/-- A right value, so deep at most. -/
def Gt (n : Nat) (v : List Nd) : Prop := ∃ t, Val t ∧ v = flat t ∧ depth t ≤ n
theorem gt_leaf {n : Nat} {x : Nd} (hp : plainN x = true) (hm : x.many = 0) (hn : x.name = []) (h5 : x.kind ≠ 5) (h6 : x.kind ≠ 6) : Gt n [x] := by
  refine ⟨.mk x [], ⟨okT_mk.2 ⟨by simp [many, hm], okTs_nil⟩, ?_, hn⟩, by rw [flat_mk]; rfl, ?_⟩
  · rw [rightT_mk, hp]; simp [rightKs]
  · rw [depth_mk, if_neg]; exact Nat.zero_le _
    simp [cont, h5, h6]
theorem depth_of_flat {t u : Tr Nd} (ht : Val t) (hu : Val u) (h : flat t = flat u) : depth t = depth u := by
  rw [← deepG_val ht, ← deepG_val hu, h]
theorem depth_nm (nm : List UInt8) (t : Tr Nd) : depth (nmd nm t) = depth t := by rw [nmd, depth_mk, depth_eq]; rfl
theorem depths_all {n : Nat} : ∀ {ts : List (Tr Nd)}, (∀ t ∈ ts, depth t ≤ n) → depths ts ≤ n
  | [], _ => by simp
  | t :: ts, h => by
    rw [depths_cons]
    exact Nat.max_le.2 ⟨h t (by simp), depths_all fun u hu => h u (by simp [hu])⟩
theorem trees_of {n : Nat} : ∀ {L : List (List Nd)}, (∀ l ∈ L, Gt n l) → ∃ ts : List (Tr Nd), (∀ t ∈ ts, Val t ∧ depth t ≤ n) ∧ L = ts.map flat
  | [], _ => ⟨[], by simp, rfl⟩
  | l :: L, h => by
    obtain ⟨ts, h1, h2⟩ := trees_of fun x hx => h x (List.mem_cons_of_mem _ hx)
    obtain ⟨t, h3, h4, h5⟩ := h l (by simp)
    refine ⟨t :: ts, ?_, by rw [List.map_cons, h4, h2]⟩
    intro u hu
    rcases List.mem_cons.1 hu with rfl | hu
    · exact ⟨h3, h5⟩
    · exact h1 u hu
theorem laid_flats : ∀ {ts : List (Tr Nd)}, (∀ t ∈ ts, Val t) → laid ((ts.map flat).map fun l => (([] : List UInt8), l)) = flats ts
  | [], _ => rfl
  | t :: ts, h => by
    rw [List.map_cons, List.map_cons, laid_cons, flats_cons, laid_flats fun u hu => h u (by simp [hu])]
    congr 1
    show setNm [] (flat t) = flat t
    rw [← flat_nmd]
    conv => rhs; rw [← nmd_self t, (h t (by simp)).nm]
theorem gt_list {n : Nat} {L : List (List Nd)} (h : ∀ l ∈ L, Gt n l) : Gt (n + 1) (liV L) := by
  obtain ⟨ts, h1, rfl⟩ := trees_of h
  refine ⟨arrT ts, val_arrT fun t ht => (h1 t ht).1, ?_, ?_⟩
  · rw [flat_arrT, liV, List.length_map, laid_flats fun t ht => (h1 t ht).1]
  · rw [arrT, depth_mk, if_pos (by simp [cont, hdN])]
    have := depths_all (n := n) fun t ht => (h1 t ht).2
    omega
theorem gt_obj {n : Nat} {ps : List Pr} (hb : objB (ps.map (·.1)) (ps.map (·.2)) = true) (h : ∀ p ∈ ps, Gt n p.2) : Gt (n + 1) (obV ps) := by
  have hr : ∀ l ∈ ps.map (·.2), rightL l = true := by
    intro l hl
    obtain ⟨p, hp, rfl⟩ := List.mem_map.1 hl
    obtain ⟨t, h1, h2, -⟩ := h p hp
    rw [h2]; exact rightL_val h1
  obtain ⟨us, h1, h2, h3, h4, h5⟩ := objV_tree hb hr
  refine ⟨objT us, h1, h2.symm, ?_⟩
  rw [objT, depth_mk, if_pos (by simp [cont, hdN])]
  have h6 : depths us ≤ n := depths_all fun u hu => by
    have h7 : flat (nmd [] u) ∈ us.map (fun u => flat (nmd [] u)) := List.mem_map_of_mem (f := fun u : Tr Nd => flat (nmd [] u)) hu
    rw [h5] at h7
    obtain ⟨p, hp, he⟩ := List.mem_map.1 h7
    have h8 := (srt_perm_self _).mem_iff.1 hp
    have h9 := (List.of_mem_zip (a := p.1) (b := p.2) h8).2
    obtain ⟨q, hq, hq2⟩ := List.mem_map.1 h9
    obtain ⟨t, ht, hf, hd⟩ := h q hq
    have hp2 := h1.parts u (by exact hu)
    rw [← depth_nm [] u, depth_of_flat (Val.clr hp2.1 hp2.2) ht (by rw [← hf, hq2]; exact he.symm)]
    exact hd
  omega
theorem wS_list (L : List (List Nd)) : wS (liV L) ≤ (L.map wS).sum := by
  have h := wS_laid (L.map fun l => (([] : List UInt8), l))
  rw [liV, wS_cons, wN_hd _ _ (by decide)]
  rw [List.map_map] at h
  have e : ((fun p : Pr => (wrs p.1).length + wS p.2) ∘ fun l => (([] : List UInt8), l)) = wS := by funext l; simp [wrs]
  rw [e] at h
  omega
theorem wS_obj {ps : List Pr} (hb : objB (ps.map (·.1)) (ps.map (·.2)) = true) : wS (obV ps) ≤ (ps.map fun p => (wrs p.1).length + wS p.2).sum := by
  have hz : (ps.map (·.1)).zip (ps.map (·.2)) = ps := by rw [List.zip_map']; simp
  rw [obV, objV, if_pos hb, wS_cons, wN_hd _ _ (by decide), hz]
  have h := wS_laid (srt ps)
  rw [((srt_perm_self ps).map fun p : Pr => (wrs p.1).length + wS p.2).sum_nat] at h
  omega
/-- One part for another of its name. -/
theorem sum_putP (f : Pr → Nat) (p : Pr) : ∀ acc : List Pr, (acc.map (·.1)).Nodup → ((acc.map fun q => if q.1 = p.1 then p else q).map f).sum ≤ (acc.map f).sum + f p
  | [], _ => by simp
  | q :: acc, h => by
    rw [List.map_cons, List.nodup_cons] at h
    have ih := sum_putP f p acc h.2
    simp only [List.map_cons, List.sum_cons]
    by_cases e : q.1 = p.1
    · rw [if_pos e]
      have hk : (acc.map fun q => if q.1 = p.1 then p else q) = acc := by
        conv => rhs; rw [← List.map_id acc]
        refine List.map_congr_left fun r hr => ?_
        rw [if_neg]; rfl
        intro hr2
        exact h.1 (List.mem_map.2 ⟨r, hr, by rw [hr2, e]⟩)
      rw [hk]; omega
    · rw [if_neg e]; omega
theorem putP_sum (f : Pr → Nat) (p : Pr) (acc : List Pr) (h : (acc.map (·.1)).Nodup) : ((putP acc p).map f).sum ≤ (acc.map f).sum + f p := by
  unfold putP
  split
  · exact sum_putP f p acc h
  · rw [List.map_append, List.sum_append]; simp
theorem putP_mem {acc : List Pr} {p q : Pr} (h : q ∈ putP acc p) : q ∈ acc ∨ q = p := by
  unfold putP at h
  split at h
  · obtain ⟨r, hr, h⟩ := List.mem_map.1 h
    split at h
    · exact .inr h.symm
    · exact .inl (h ▸ hr)
  · simpa using h
/-- A reading gives right values, no longer than the text. -/
def Good (n : Nat) (rd : Nat → Rs (List Nd)) : Prop := ∀ i v k, rd i = .ok v k → Gt n v ∧ wS v + i ≤ k
theorem stR_wrs {S : List UInt8} {i k : Nat} {v : List UInt8} (h : stR S i = .ok v k) : (wrs v).length + 2 + i ≤ k := by
  unfold stR at h
  rcases unqs_shape (S.drop i) with ⟨h1, h2, h3, h4, h5, -, h6⟩ | ⟨-, h2, -⟩
  · rw [if_pos h1] at h
    injection h with h7 h8
    subst h7 h8
    omega
  · rw [if_neg (by omega)] at h; cases h
theorem nuR_good {S : List UInt8} {n i k : Nat} {v : List Nd} (h : nuR S i = .ok v k) : Gt n v ∧ wS v + i ≤ k := by
  unfold nuR at h
  split at h
  · rename_i h0
    injection h with e1 e2
    subst e1 e2
    have hr : right (readF (nuT S i)).1 = true := by
      rcases read_cases (nuT S i) with h1 | h1
      · exact h1.2
      · rcases h1.2 with h2 | h2 <;> rw [h0] at h2 <;> cases h2
    obtain ⟨r1, r2, r3, -⟩ := (right_iff _).1 hr
    refine ⟨gt_leaf ?_ r2 r3 (by rw [r1]; decide) (by rw [r1]; decide), ?_⟩
    · unfold plainN
      rw [r1, if_neg (by decide), if_pos rfl]
      generalize (readF (nuT S i)).1 = x at *
      obtain ⟨a, b, c, d, e, f⟩ := x
      simp only at r1 r3
      subst r1 r3
      exact hr
    · rw [wS_cons, wS_nil, wN, r1, r3, if_neg (by decide)]
      simp [wrs]
  · cases h
theorem woR_good {S : List UInt8} {n i k : Nat} {v : List Nd} (h : woR S i = .ok v k) : Gt n v ∧ wS v + i ≤ k := by
  have hw : ∀ c : Int, c = 0 ∨ c = 1 ∨ c = 2 → Gt n [hdN c 0] ∧ wS [hdN c 0] = 0 := by
    intro c hc
    refine ⟨gt_leaf ?_ rfl rfl (by simp only [hdN]; omega) (by simp only [hdN]; omega), by rw [wS_cons, wS_nil, wN_hd _ _ (by omega)]⟩
    unfold plainN
    rw [if_pos (by simpa [hdN] using hc)]
    simp [hdN]
  unfold woR at h
  split at h
  · injection h with e1 e2; subst e1 e2; have := hw 0 (by decide); exact ⟨this.1, by rw [this.2]; omega⟩
  · split at h
    · injection h with e1 e2; subst e1 e2; have := hw 1 (by decide); exact ⟨this.1, by rw [this.2]; omega⟩
    · split at h
      · injection h with e1 e2; subst e1 e2; have := hw 2 (by decide); exact ⟨this.1, by rw [this.2]; omega⟩
      · cases h
theorem vl1_good {S : List UInt8} {arr obj : Nat → Rs (List Nd)} {n i : Nat}
    (ha : bt S i = 91 → ∀ v k, arr i = .ok v k → Gt n v ∧ wS v + i ≤ k) (ho : bt S i = 123 → ∀ v k, obj i = .ok v k → Gt n v ∧ wS v + i ≤ k)
    {v : List Nd} {k : Nat} (h : vl1 S arr obj i = .ok v k) : Gt n v ∧ wS v + i ≤ k := by
  unfold vl1 at h
  split at h
  · rename_i hb; exact ha hb v k h
  · split at h
    · rename_i hb; exact ho hb v k h
    · split at h
      · obtain ⟨a, h1, rfl⟩ := mapR_ok h
        obtain ⟨h2, h3, h4, -⟩ := stR_ok h1
        have h5 := stR_wrs h1
        refine ⟨gt_leaf ?_ rfl rfl (by simp) (by simp), ?_⟩
        · simp [plainN, vld, h4]
        · rw [strV, wS_cons, wS_nil, wN]; simp [wrs] at h5 ⊢; omega
      · split at h
        · exact nuR_good h
        · exact woR_good h
theorem li_good {S : List UInt8} {n : Nat} {rd : Nat → Rs (List Nd)} (hg : Goes S rd) (hrd : Good n rd) {j : Nat} (hj : j < S.length) {v : List Nd} {k : Nat} (h : mapR liV (ptR rd Tp.snoc [] S 93 j) = .ok v k) : Gt (n + 1) v ∧ wS v + j ≤ k := by
  obtain ⟨a, h1, rfl⟩ := mapR_ok h
  obtain ⟨h2, h3, h4, h5⟩ := ptR_inv (by decide) (fun i acc => (∀ l ∈ acc, Gt n l) ∧ (acc.map wS).sum + j < i) (fun i acc v k _ hp hr => by
    obtain ⟨g1, g2, -⟩ := hg i v k hr
    obtain ⟨g3, g4⟩ := hrd i v k hr
    refine ⟨g1, g2, fun k' hk' => ⟨?_, ?_⟩⟩
    · intro l hl
      rw [Tp.snoc, List.mem_append, List.mem_singleton] at hl
      rcases hl with hl | rfl
      · exact hp.1 l hl
      · exact g3
    · have := hp.2
      rw [Tp.snoc, List.map_append, List.sum_append]
      simp only [List.map_cons, List.map_nil, List.sum_cons, List.sum_nil]
      omega) hj (fun k hk => ⟨by simp, by simpa using hk⟩) h1
  have := wS_list a
  exact ⟨gt_list h4, by omega⟩
theorem fd_good {S : List UInt8} {n : Nat} {rd : Nat → Rs (List Nd)} (hrd : Good n rd) {i k : Nat} {p : Pr} (h : fdR rd S i = .ok p k) : Gt n p.2 ∧ (wrs p.1).length + wS p.2 + i ≤ k := by
  unfold fdR at h
  cases hs : stR S (sk S i) with
  | bad e q => rw [hs] at h; cases h
  | ok nm k1 =>
    rw [hs] at h
    simp only at h
    have h1 := stR_wrs hs
    split at h
    · cases hr : rd (sk S k1 + 1) with
      | bad e q => rw [hr] at h; cases h
      | ok v k2 =>
        rw [hr] at h
        injection h with e1 e2
        subst e1 e2
        obtain ⟨g1, g2⟩ := hrd _ _ _ hr
        have := sk_ge S i
        have := sk_ge S k1
        exact ⟨g1, by simp only; omega⟩
    · cases h
theorem ob_good {S : List UInt8} {n : Nat} {rd : Nat → Rs (List Nd)} (hg : Goes S rd) (hrd : Good n rd) {j : Nat} (hj : j < S.length) {v : List Nd} {k : Nat} (h : mapR obV (ptR (fdR rd S) putP [] S 125 j) = .ok v k) : Gt (n + 1) v ∧ wS v + j ≤ k := by
  obtain ⟨a, h1, rfl⟩ := mapR_ok h
  obtain ⟨h2, h3, h4, h5, h6⟩ := ptR_inv (by decide) (fun i acc => FdP j i acc ∧ (∀ p ∈ acc, Gt n p.2) ∧ (acc.map fun p : Pr => (wrs p.1).length + wS p.2).sum + j < i) (fun i acc p k hi hp hr => by
    obtain ⟨f1, f2, f3⟩ := fdP_step hg j i acc p k hi hp.1 hr
    obtain ⟨g1, g2⟩ := fd_good hrd hr
    refine ⟨f1, f2, fun k' hk' => ⟨f3 k' hk', ?_, ?_⟩⟩
    · intro q hq
      rcases putP_mem hq with hq | rfl
      · exact hp.2.1 q hq
      · exact g1
    · have := putP_sum (fun p : Pr => (wrs p.1).length + wS p.2) p acc hp.1.2.2.1
      have := hp.2.2
      omega) hj (fun k hk => ⟨FdP.zero hk, by simp, by simpa using hk⟩) h1
  have := wS_obj h4.objB
  exact ⟨gt_obj h4.objB h5, by omega⟩
theorem vlR_good (S : List UInt8) : ∀ n, Good n (vlR S n)
  | 0 => fun i v k h => by
    rw [vlR_zero] at h
    have h1 := sk_ge S i
    have h2 := vl1_good (n := 0) (fun _ v k h => by cases h) (fun _ v k h => by cases h) h
    exact ⟨h2.1, by omega⟩
  | n + 1 => fun i v k h => by
    rw [vlR_succ] at h
    have h1 := sk_ge S i
    have h2 := vl1_good (n := n + 1) (fun hb v k h => li_good (vlR_goes S n) (vlR_good S n) (bt_lt (by omega)) h) (fun hb v k h => ob_good (vlR_goes S n) (vlR_good S n) (bt_lt (by omega)) h) h
    exact ⟨h2.1, by omega⟩
/-- An error has a number, and a place in the text. -/
def Er3 (S : List UInt8) (e : Int) (p : Nat) : Prop := (e = 1 ∨ e = 2 ∨ e = 3) ∧ p ≤ S.length
theorem mapR_bad {α β : Type} {f : α → β} {R : Rs α} {e : Int} {p : Nat} (h : mapR f R = .bad e p) : R = .bad e p := by
  cases R with
  | ok a k => cases h
  | bad e' p' => injection h with e1 e2; subst e1 e2; rfl
theorem nuR_err {S : List UInt8} {i p : Nat} {e : Int} (hi : i ≤ S.length) (h : nuR S i = .bad e p) : Er3 S e p := by
  unfold nuR at h
  split at h
  · cases h
  · rename_i h0
    injection h with e1 e2
    subst e1 e2
    have h1 := readF_at (nuT S i)
    have h2 := nuT_len S i hi
    refine ⟨?_, by omega⟩
    rcases read_cases (nuT S i) with h3 | h3
    · exact absurd h3.1 h0
    · rcases h3.2 with h4 | h4
      · exact .inl h4
      · exact .inr (.inl h4)
theorem woR_err {S : List UInt8} {i p : Nat} {e : Int} (hi : i ≤ S.length) (h : woR S i = .bad e p) : Er3 S e p := by
  unfold woR at h
  split at h
  · cases h
  · split at h
    · cases h
    · split at h
      · cases h
      · injection h with e1 e2; subst e1 e2; exact ⟨.inl rfl, hi⟩
theorem vl1_err {S : List UInt8} {arr obj : Nat → Rs (List Nd)} {i : Nat} (hi : i ≤ S.length)
    (ha : bt S i = 91 → ∀ e p, arr i = .bad e p → Er3 S e p) (ho : bt S i = 123 → ∀ e p, obj i = .bad e p → Er3 S e p)
    {e : Int} {p : Nat} (h : vl1 S arr obj i = .bad e p) : Er3 S e p := by
  unfold vl1 at h
  split at h
  · rename_i hb; exact ha hb e p h
  · split at h
    · rename_i hb; exact ho hb e p h
    · split at h
      · have := stR_bad (mapR_bad h) hi
        exact ⟨.inl this.1, this.2⟩
      · split at h
        · exact nuR_err hi h
        · exact woR_err hi h
theorem ptR_err {α β : Type} {rd : Nat → Rs α} {put : β → α → β} {S : List UInt8} {c : Nat} {zero : β} {j : Nat} (hj : j < S.length)
    (hE : ∀ i e q, i ≤ S.length → rd i = .bad e q → Er3 S e q) (hG : ∀ i v k, i ≤ S.length → rd i = .ok v k → i < k ∧ k ≤ S.length) {e : Int} {p : Nat} (h : ptR rd put zero S c j = .bad e p) : Er3 S e p := by
  unfold ptR at h
  have h5 := sk_le (S := S) (i := j + 1) (by omega)
  split at h
  · cases h
  · rcases lpR_err (fun e q ⟨i, hi, hr⟩ => (hE i e q hi hr).2) hG (S.length + 1) _ _ e p h5 (by omega) h with h1 | ⟨i, hi, hr⟩
    · exact ⟨.inl h1.1, h1.2⟩
    · exact hE i e p hi hr
theorem fdR_err {S : List UInt8} {rd : Nat → Rs (List Nd)} (hE : ∀ i e q, i ≤ S.length → rd i = .bad e q → Er3 S e q) {i : Nat} (hi : i ≤ S.length) {e : Int} {p : Nat} (h : fdR rd S i = .bad e p) : Er3 S e p := by
  unfold fdR at h
  have h1 := sk_le hi
  cases hs : stR S (sk S i) with
  | bad e' q =>
    rw [hs] at h
    injection h with e1 e2
    subst e1 e2
    have := stR_bad hs h1
    exact ⟨.inl this.1, this.2⟩
  | ok nm k1 =>
    rw [hs] at h
    simp only at h
    obtain ⟨g1, g2, -⟩ := stR_ok hs
    have h2 := sk_le g2
    split at h
    · rename_i hb
      have h3 := bt_lt (S := S) (k := sk S k1) (by omega)
      cases hr : rd (sk S k1 + 1) with
      | ok v k2 => rw [hr] at h; cases h
      | bad e' q =>
        rw [hr] at h
        injection h with e1 e2
        subst e1 e2
        exact hE _ _ _ (by omega) hr
    · injection h with e1 e2
      subst e1 e2
      exact ⟨.inl rfl, h2⟩
theorem vlR_err (S : List UInt8) : ∀ n i e p, i ≤ S.length → vlR S n i = .bad e p → Er3 S e p
  | 0, i, e, p, hi, h => by
    rw [vlR_zero] at h
    have h1 := sk_le hi
    exact vl1_err h1 (fun _ e p h => by injection h with e1 e2; subst e1 e2; exact ⟨.inr (.inr rfl), h1⟩) (fun _ e p h => by injection h with e1 e2; subst e1 e2; exact ⟨.inr (.inr rfl), h1⟩) h
  | n + 1, i, e, p, hi, h => by
    rw [vlR_succ] at h
    have h1 := sk_le hi
    have ih := vlR_err S n
    have hg := vlR_goes S n
    refine vl1_err h1 (fun hb e p h => ptR_err (bt_lt (by omega)) ih (fun i v k _ hr => ⟨(hg i v k hr).1, (hg i v k hr).2.1⟩) (mapR_bad h)) (fun hb e p h => ptR_err (bt_lt (by omega)) (fun i e q hi hr => fdR_err ih hi hr) (fun i v k _ hr => ?_) (mapR_bad h)) h
    have := fdR_ok hg hr
    exact ⟨by omega, this.2.1⟩
/-- What D1 says of a text: a right value, or an error at a place in it. -/
theorem prsR_cases (S : List UInt8) : (Gt 128 (prsR S).1 ∧ wS (prsR S).1 ≤ S.length ∧ 2 * (prsR S).1.length ≤ S.length + 1 ∧ (prsR S).2.1 = 0 ∧ (prsR S).2.2 = 0) ∨ ((prsR S).1 = [] ∧ Er3 S (prsR S).2.2 (prsR S).2.1) := by
  unfold prsR
  cases hr : vlR S 128 0 with
  | bad e p => exact .inr ⟨rfl, vlR_err S 128 0 e p (Nat.zero_le _) hr⟩
  | ok x k =>
    obtain ⟨g1, g2⟩ := vlR_good S 128 0 x k hr
    obtain ⟨g3, g4, g5, g6⟩ := vlR_goes S 128 0 x k hr
    simp only
    split
    · exact .inr ⟨rfl, .inl rfl, sk_le g4⟩
    · exact .inl ⟨g1, by simp only; omega, by simp only; omega, rfl, rfl⟩

/-! ### how long a text is -/
theorem wordT_len (k : Int) : (wordT k).length ≤ 5 := by unfold wordT; split <;> (try split) <;> decide
theorem prN_len (ln : Bool) (nm : List UInt8) : (prN ln nm).length ≤ (wrs nm).length + 4 := by
  unfold prN
  rw [List.length_append, quo_len, List.length_cons]
  split <;> simp
theorem scT_len {n : Nd} (hp : plainN n = true) (h5 : n.kind ≠ 5) (h6 : n.kind ≠ 6) : (scT n).length + (wrs n.name).length ≤ wN n + 160 := by
  unfold scT wN
  split
  · have := wordT_len n.kind; omega
  · rename_i h0
    split
    · rename_i h3
      have hr : right { n with name := [] } = true := by unfold plainN at hp; rw [if_neg h0, if_pos h3] at hp; exact hp
      obtain ⟨b1, b2, b3⟩ := right_bounds hr
      have := print_short n.s n.neg n.e (by simp only at b2; omega) (by simp only at b3; omega)
      simp only at b1
      omega
    · rename_i h3
      have h4 : n.kind = 4 := by
        unfold plainN at hp
        rw [if_neg h0, if_neg h3] at hp
        split at hp
        · assumption
        · split at hp
          · omega
          · cases hp
      rw [if_pos h4, quo_len]; omega
/-- The sum of what the parts are written as. -/
def szK (ln : Bool) (d E : Nat) (ks : List (Tr Nd)) : Nat := (ks.map fun u => (prT ln d u).length + (wrs u.nd.name).length + (E + 5)).sum
theorem prK_len (ln : Bool) (ob : Bool) (d E : Nat) (hd0 : (prL ln d).length ≤ E) (hd : (prL ln (d + 1)).length ≤ E) : ∀ ks : List (Tr Nd), (prK ln d ob ks).length ≤ szK ln (d + 1) E ks + E
  | [] => by rw [prK_nil]; simp only [szK, List.map_nil, List.sum_nil]; omega
  | u :: ks => by
    have h1 := prK_len ln ob d E hd0 hd ks
    have h3 : (if ob = true then prN ln u.nd.name else []).length ≤ (wrs u.nd.name).length + 4 := by
      split
      · exact prN_len ln _
      · simp
    rw [prK_cons, List.length_cons, List.length_append, List.length_append, List.length_append]
    simp only [szK, List.map_cons, List.sum_cons] at h1 ⊢
    omega
theorem prB_len (ln : Bool) (ob : Bool) (d E : Nat) (hd0 : (prL ln d).length ≤ E) (hd : (prL ln (d + 1)).length ≤ E) (ks : List (Tr Nd)) : (prB ln d ob ks).length ≤ szK ln (d + 1) E ks + E := by
  cases ks with
  | nil => rw [prB_nil]; simp
  | cons u ks =>
    have h1 := prK_len ln ob d E hd0 hd ks
    have h3 : (if ob = true then prN ln u.nd.name else []).length ≤ (wrs u.nd.name).length + 4 := by
      split
      · exact prN_len ln _
      · simp
    rw [prB_cons, List.length_append, List.length_append, List.length_append]
    simp only [szK, List.map_cons, List.sum_cons] at h1 ⊢
    omega
theorem wS_flats : ∀ ks : List (Tr Nd), wS (flats ks) = (ks.map fun u => wS (flat u)).sum
  | [] => rfl
  | u :: ks => by rw [flats_cons, wS_append, wS_flats ks]; simp
theorem len_flats : ∀ ks : List (Tr Nd), (flats ks).length = (ks.map fun u => (flat u).length).sum
  | [] => rfl
  | u :: ks => by rw [flats_cons, List.length_append, len_flats ks]; simp
theorem szK_le (ln : Bool) (d E : Nat) (c : Nat) : ∀ ks : List (Tr Nd), (∀ u ∈ ks, (prT ln d u).length + (wrs u.nd.name).length + (E + 5) ≤ wS (flat u) + c * (flat u).length) → szK ln d E ks ≤ wS (flats ks) + c * (flats ks).length
  | [], _ => by simp [szK]
  | u :: ks, h => by
    have h1 := szK_le ln d E c ks fun x hx => h x (List.mem_cons_of_mem _ hx)
    have h2 := h u (by simp)
    rw [flats_cons, wS_append, List.length_append, Nat.mul_add]
    simp only [szK, List.map_cons, List.sum_cons] at h1 ⊢
    omega
theorem prT_len (ln : Bool) (D E : Nat) (hE : ∀ d, d ≤ D → (prL ln d).length ≤ E) : ∀ (N : Nat) (t : Tr Nd) (d : Nat), (flat t).length ≤ N → okT many t → rightT t = true → d + depth t ≤ D →
    (prT ln d t).length + (wrs t.nd.name).length + (E + 5) ≤ wS (flat t) + (2 * E + 165) * (flat t).length
  | 0, t, _, hN, _, _, _ => by have := flat_pos t; omega
  | N + 1, .mk n ks, d, hN, h1, h2, hd => by
    have hk := kids_okP h1 h2
    have hpl : plainN n = true := by rw [rightT_mk, Bool.and_eq_true] at h2; exact h2.1
    rw [prT_mk, flat_mk, wS_cons, List.length_cons, Nat.mul_succ]
    show _ + (wrs n.name).length + _ ≤ _
    have hw : (wrs n.name).length ≤ wN n := by unfold wN; omega
    have key : n.kind = 5 ∨ n.kind = 6 → d + 1 ≤ D ∧ szK ln (d + 1) E ks ≤ wS (flats ks) + (2 * E + 165) * (flats ks).length := by
      intro h56
      rw [depth_mk, if_pos (by simpa [cont] using h56)] at hd
      refine ⟨by omega, szK_le ln (d + 1) E _ ks fun u hu => ?_⟩
      have h3 := depths_le hu
      exact prT_len ln D E hE N u (d + 1) (by have := kid_lessP (n := n) hu; omega) (hk u hu).1 (hk u hu).2 (by omega)
    split
    · rename_i h5
      obtain ⟨k1, k2⟩ := key (.inl h5)
      have := prB_len ln false d E (hE d (by omega)) (hE (d + 1) k1) ks
      simp only [List.length_cons, List.length_append, List.length_nil]
      omega
    · split
      · rename_i h6
        obtain ⟨k1, k2⟩ := key (.inr h6)
        have := prB_len ln true d E (hE d (by omega)) (hE (d + 1) k1) ks
        simp only [List.length_cons, List.length_append, List.length_nil]
        omega
      · have := scT_len hpl (by assumption) (by assumption)
        omega
theorem compact_len {t : Tr Nd} (h1 : okT many t) (h2 : rightT t = true) : (prT false 0 t).length ≤ wS (flat t) + 165 * (flat t).length := by
  have := prT_len false (depth t) 0 (fun d _ => by simp [prL]) _ t 0 (Nat.le_refl _) h1 h2 (by omega)
  omega
theorem indent_len {t : Tr Nd} (h1 : okT many t) (h2 : rightT t = true) {D : Nat} (hd : depth t ≤ D) : (prT true 0 t).length ≤ wS (flat t) + (4 * D + 167) * (flat t).length := by
  have := prT_len true D (2 * D + 1) (fun d hd => by have := prL_len true d; omega) _ t 0 (Nat.le_refl _) h1 h2 (by omega)
  rw [show 2 * (2 * D + 1) + 165 = 4 * D + 167 by omega] at this
  omega
end Tp
end Go.Proofs.YtbgciajfjllciaaGreatDoor

/-
  What the document's own answers are: Same, Texts, Lists; the library's Equal and val's Same.
-/
namespace Go.Proofs.YtbgciajfjllciaaGreatDoor
open Go.RowKit Np

theorem take_eq_succ {α : Type} {a b : List α} {k : Nat} {x y : α} (h : a.take k = b.take k) (hx : a[k]? = some x) (hy : b[k]? = some y) (he : x = y) : a.take (k + 1) = b.take (k + 1) := by
  rw [List.take_add_one, List.take_add_one, h, hx, hy, he]
theorem ne_of_at {α : Type} {a b : List α} {k : Nat} {x y : α} (hx : a[k]? = some x) (hy : b[k]? = some y) (he : x ≠ y) : a ≠ b := by
  rintro rfl
  rw [hx] at hy
  exact he (Option.some.inj hy)
theorem eq_of_take {α : Type} {a b : List α} {k : Nat} (h : a.take k = b.take k) (ha : a.length ≤ k) (hb : b.length ≤ k) : a = b := by
  rwa [List.take_of_length_le ha, List.take_of_length_le hb] at h

set_option maxHeartbeats 400000 in
theorem refSame_quiet (va vb : Value) (la lb : List Nd) (w : World) (ha : Nds w va la) (hb : Nds w vb lb) :
    Calls Tryz.prog 13 #[va, vb] w fun e w' => e = .returned (.bool (decide (la = lb))) ∧ ∃ n, w' = w.drewN n := by
  have hB : ∃ n, w = w.drewN n := ⟨0, rfl⟩
  by_cases hl : la.length = lb.length
  · rcases Nat.eq_zero_or_pos la.length with h0 | h0
    · have e1 := List.eq_nil_of_length_eq_zero h0
      have e2 := List.eq_nil_of_length_eq_zero (hl ▸ h0)
      subst e1 e2
      obtain ⟨A, c, rfl, -⟩ := ha
      obtain ⟨B, d, rfl, -⟩ := hb
      clear hl h0
      simp only [List.length_nil]
      go_enter Tryz.func13, Tryz.ntmps13
      go_wp2
      go_loopw [5] (fun i wr => i = .int .i64 0 ∧ wr = w) (fun _ _ => 0)
      case atStart => exact ⟨rfl, rfl⟩
      case round =>
        obtain ⟨rfl, rfl⟩ := hrel
        go_wp2
        go_ret
        exact ⟨ret_bool rfl, hB⟩
    · have hlen := ha.len
      obtain ⟨g, o, c, rfl, hc, hcm, hg, hx⟩ := ha.opened h0
      obtain ⟨g2, o2, c2, rfl, hc2, hcm2, hg2, hx2⟩ := hb.opened (hl ▸ h0)
      rw [← hl]
      have HX := Lib.hid hx
      have HX2 := Lib.hid hx2
      have HL := Lib.hid hl
      clear hx hx2 hl
      generalize hn : la.length = n at *
      have HN := Lib.hid hn; clear hn
      unfold maxLen at hlen
      have hneq := neq_nd
      go_enter Tryz.func13, Tryz.ntmps13
      go_wp2
      go_loopw [5] (fun i wr => ∃ k : Nat, k ≤ n ∧ i = .int .i64 k ∧ (∃ m, wr = w.drewN m) ∧ la.take k = lb.take k) (fun i _ => n - (intOf i).toNat)
      case atStart => exact ⟨0, Nat.zero_le _, rfl, ⟨0, rfl⟩, rfl⟩
      case round =>
        obtain ⟨k, hk, rfl, hq, ht⟩ := hrel
        have HQ := Lib.hid hq; clear hq
        have HT := Lib.hid ht; clear ht
        by_cases hlt : k < n
        · obtain ⟨a, ha⟩ : ∃ a, la[k]? = some a := ⟨_, List.getElem?_eq_getElem (by rw [HN.out]; exact hlt)⟩
          obtain ⟨b, hb'⟩ : ∃ b, lb[k]? = some b := ⟨_, List.getElem?_eq_getElem (by rw [← HL.out]; exact hlt)⟩
          obtain ⟨a0, a1, a2, a3, a4, a5⟩ := (HX.out k a ha).nd.quiet HQ.out
          obtain ⟨b0, b1, b2, b3, b4, b5⟩ := (HX2.out k b hb').nd.quiet HQ.out
          have HA := Lib.hid ha
          have HB := Lib.hid hb'
          clear ha hb'
          by_cases he : a = b
          · have HE : Hid (la.take (k + 1) = lb.take (k + 1)) := Lib.hid (take_eq_succ HT.out HA.out HB.out he)
            have hd : decide (a = b) = true := by simp [he]
            clear he
            go_wp2
            go_quiet (fail)
            go_wp2
            go_roundw
            case rel => exact ⟨k + 1, by omega, by go_num, quiet_more HQ.out _, HE.out⟩
            case measure => simp [intOf]; omega
          · have HE : Hid (la ≠ lb) := Lib.hid (ne_of_at HA.out HB.out he)
            have hd : decide (a = b) = false := by simp [he]
            clear he
            go_wp2
            go_quiet (fail)
            go_wp2
            go_ret
            exact ⟨ret_bool (by simp [HE.out]), quiet_more HQ.out _⟩
        · have HE : Hid (la = lb) := Lib.hid (eq_of_take HT.out (by rw [HN.out]; omega) (by rw [← HL.out]; omega))
          go_wp2
          go_ret
          exact ⟨ret_bool (by simp [HE.out]), HQ.out⟩
  · obtain ⟨A, c, rfl, -⟩ := ha
    obtain ⟨B, d, rfl, -⟩ := hb
    have HE : Hid (la ≠ lb) := Lib.hid (fun h => hl (by rw [h]))
    have hz : ((la.length : Int) == lb.length) = false := by simp; omega
    have hz2 : ((la.length : Int) != lb.length) = true := by simp; omega
    clear hl
    go_enter Tryz.func13, Tryz.ntmps13
    go_wp2
    go_ret
    exact ⟨ret_bool (by simp [HE.out]), hB⟩
theorem refSame_any (va vb : Value) (la lb : List Nd) (w : World) (ha : Nds w va la) (hb : Nds w vb lb) :
    Calls Tryz.prog 13 #[va, vb] w fun e w' => e = .returned (.bool (decide (la = lb))) ∧ Below w.heap.size w w' :=
  (refSame_quiet va vb la lb w ha hb).mono fun _ _ ⟨he, hw⟩ => ⟨he, below_quiet hw⟩

end Go.Proofs.YtbgciajfjllciaaGreatDoor

/-
  What the document's own answers are: own, Parts, Names, Depth.
-/
namespace Go.Proofs.YtbgciajfjllciaaGreatDoor
open Go.RowKit Np Rw Vp

set_option maxRecDepth 100000 in
set_option maxHeartbeats 4000000 in
theorem refOwn_any (v : Value) (l : List Nd) (a b : Nat) (n : Nd) (rest : List Nd) (w : World) (hv : Nds w v l) (hl : l.length ≤ 65536) (hab : a < b) (hbl : b ≤ l.length) (hs : (l.drop a).take (b - a) = n :: rest) :
    Calls Tryz.prog 60 #[v, .int .i64 a, .int .i64 b] w (OwnsN w (noName n :: rest)) := by
  obtain ⟨g, o, c, rfl, hc, hcm, hg, -⟩ := hv.opened (by omega)
  have HPC : Hid (Nds w (.slice (some ⟨g, o + a * 6, none⟩) (b - a) (c - a)) (n :: rest)) := Lib.hid (by
    have := hv.piece a (b - a) (by omega)
    rwa [hs] at this)
  have HLN : Hid ((n :: rest).length = b - a) := Lib.hid (by rw [← hs]; simp; omega)
  clear hs hv
  generalize hn : l.length = N at *
  have hac : a ≤ c := by omega
  have hbc : b ≤ c := by omega
  have hane : ¬ a = c := by omega
  clear hn
  generalize hr : n :: rest = r at HPC HLN
  have HR := Lib.hid hr
  clear hr
  go_enter Tryz.func60, Tryz.ntmps60
  have HO0 : Hid (OwnN w.heap.size (w.alloc (.cells #[] 38)) (.slice (some ⟨w.heap.size, 0, none⟩) 0 0) []) := Lib.hid (by
    have := Own.lit (base := w.heap.size) (E := 38) ndc_len w #[] [] (Nat.le_refl _) (by simp) rfl
    simpa using this)
  go_wp2_with (at_builtin; refine wpList_append_row (base := w.heap.size) elNode rfl _ _ rfl rfl HO0.out rfl (HPC.out.below ((Below.refl _ _).alloc (Nat.le_refl _) _)) ?_ ?_ ?_ ?_)
  · have := HLN.out; unfold maxLen; simp only [List.length_nil]; omega
  · have := HLN.out; simp only [List.length_nil]; omega
  · simp
  · intro A3 c3 w3 hown3 hg3 hwh
    clear hwh
    have HO3 : Hid (OwnN w.heap.size w3 (.slice A3 r.length c3) r) := Lib.hid hown3
    have HB3 : Hid (Below w.heap.size w w3) := Lib.hid (((Below.refl w.heap.size w).alloc (Nat.le_refl _) (.cells #[] 38)).trans (HO0.out.kept hg3 (by simp)))
    clear hown3 hg3
    obtain ⟨g', rfl, hc3, HG⟩ : ∃ g', A3 = some ⟨g', 0, none⟩ ∧ b - a ≤ c3 ∧ Hid (w.heap.size ≤ g' ∧ g' < w3.heap.size) := by
      have h := HO3.out
      obtain ⟨g', cap, hv, h1, h2⟩ := h.opened (by have := HLN.out; omega)
      injection hv with e1 _ e3
      have := h.cap.2.1
      exact ⟨g', e1, by have := HLN.out; omega, Lib.hid ⟨h1, h2⟩⟩
    have hk0 : r[0]? = some n := by rw [← HR.out]; rfl
    have x0 := Own.cell ndc_len (j := 0) HO3.out hk0 rfl
    have x1 := Own.cell ndc_len (j := 1) HO3.out hk0 rfl
    have x2 := Own.cell ndc_len (j := 2) HO3.out hk0 rfl
    have x3 := Own.cell ndc_len (j := 3) HO3.out hk0 rfl
    have x4 := Own.cell ndc_len (j := 4) HO3.out hk0 rfl
    have x5 := Own.cell ndc_len (j := 5) HO3.out hk0 rfl
    simp only [Nat.zero_mul, Nat.zero_add] at x0 x1 x2 x3 x4 x5
    have HK0 := Lib.hid hk0
    clear hk0
    rw [HLN.out] at HO3 ⊢
    have hba : 0 < b - a := by omega
    have HTH : Hid (∀ ob : Obj, (w3.alloc ob).there g' 0 6) := Lib.hid (fun ob => by
      have h : OwnN w.heap.size (w3.alloc ob) (.slice (some ⟨g', 0, none⟩) r.length c3) r := by rw [HLN.out]; exact HO3.out.alloc ob
      have := Own.there ndc_len h HK0.out
      simpa using this)
    have HPU : Hid (∀ ob : Obj, OwnN w.heap.size ((w3.alloc ob).setCells g' 0 (ndc (noName n))) (.slice (some ⟨g', 0, none⟩) (b - a) c3) (noName n :: rest)) := Lib.hid (fun ob => by
      have h : OwnN w.heap.size (w3.alloc ob) (.slice (some ⟨g', 0, none⟩) r.length c3) r := by rw [HLN.out]; exact HO3.out.alloc ob
      have h2 := Own.puts (y := noName n) ndc_len h HK0.out
      rw [HLN.out] at h2
      rw [← HR.out] at h2
      simpa using h2)
    go_wp2_with (refine wpList_store_node rfl _ _ rfl g' 0 (noName n) rfl rfl (HTH.out _) ?_)
    go_ret
    exact ⟨_, rfl, HPU.out _, Below.setCells HG.out.1 _ _ (HB3.out.alloc HB3.out.size _)⟩

theorem Elems.aside {base : Nat} {W W' : World} {v : Value} {xs zs : List (Option Addr × Nat × Nat)} {L : List (List Nd)} (h : Elems base W zs L) (hv : Own slc 1 24 base W v xs) (hg : W.grownBy W' v.ownBlock) : Elems base W' zs L :=
  ⟨h.1, fun k z l hz hl => Own.aside (h.2 k z l hz hl) hv (by decide) hg⟩

/-- What is handed back is one's own, so that more can be appended to it. -/
def OwnsV (w : World) (L : List (List Nd)) (e : Ending) (w' : World) : Prop := ∃ v' zs, e = .returned v' ∧ Own slc 1 24 w.heap.size w' v' zs ∧ Elems w.heap.size w' zs L ∧ Below w.heap.size w w'
def OwnsS (w : World) (L : List (List UInt8)) (e : Ending) (w' : World) : Prop := ∃ v', e = .returned v' ∧ Own stc 1 9 w.heap.size w' v' L ∧ Below w.heap.size w w'

set_option maxRecDepth 100000 in
set_option maxHeartbeats 4000000 in
theorem refParts_own (v : Value) (t : Tr Nd) (w : World) (hv : Nds w v (flat t)) (hl : (flat t).length ≤ 65536) (ht : Val t) :
    Calls Tryz.prog 36 #[v] w (OwnsV w (t.ks.map fun k => flat (nmd [] k))) := by
  have hvo := hv
  obtain ⟨g, o, c, rfl, hc, hcm, hg, hx⟩ := hvo.opened (flat_pos t)
  have hmany : t.nd.many = t.ks.length := (okT_eq.1 ht.ok).1
  have a1 : w.cell? ⟨g, o + 1, none⟩ = some (.int .i64 (t.ks.length : Nat)) := by
    have := (hx 0 t.nd (by rw [flat_eq]; rfl)).nd.c1
    rw [hmany] at this
    simpa using this
  have HA1 := Lib.hid a1
  have HV := Lib.hid hv
  have HKS := Lib.hid (okT_eq.1 ht.ok).2
  have hkl : t.ks.length ≤ 65536 := by
    have h1 := flats_len t.ks
    rw [flat_eq] at hl
    simp at hl
    omega
  have hpos := flat_pos t
  have HDR : Hid (∀ pre post, t.ks = pre ++ post → (flat t).drop (1 + (flats pre).length) = flats post) := Lib.hid (fun pre post h => by
    rw [flat_eq, h, flats_append, Nat.add_comm, List.drop_succ_cons, List.drop_left])
  clear hx hv hvo hmany a1
  have HLL := Lib.hid hl
  generalize hn : (flat t).length = n at *
  have HN := Lib.hid hn
  clear hn
  generalize hq : t.ks.length = q at *
  have HQ := Lib.hid hq
  clear hq
  go_enter Tryz.func36, Tryz.ntmps36
  have HO0 : Hid (Own slc 1 24 w.heap.size (w.alloc (.cells #[] 24)) (.slice (some ⟨w.heap.size, 0, none⟩) 0 0) []) := Lib.hid (by
    have := Own.lit (base := w.heap.size) (E := 24) slc_len w #[] [] (Nat.le_refl _) (by simp) rfl
    simpa using this)
  go_wp2_with fail
  go_loopw [3, 4, 5] (fun ov iv kv wr => ∃ (pre post : List (Tr Nd)) (zs : List (Option Addr × Nat × Nat)), t.ks = pre ++ post ∧ kv = .int .i64 pre.length ∧ iv = .int .i64 (1 + (flats pre).length : Nat) ∧ Own slc 1 24 w.heap.size wr ov zs ∧ Elems w.heap.size wr zs (pre.map fun k => flat (nmd [] k)) ∧ Below w.heap.size w wr) (fun _ _ kv _ => q - (intOf kv).toNat)
  case atStart => exact ⟨[], t.ks, [], rfl, rfl, rfl, HO0.out, ⟨rfl, fun k z l h => by simp at h⟩, (Below.refl _ _).alloc (Nat.le_refl _) _⟩
  case round =>
    obtain ⟨pre, post, zs, hpp, rfl, rfl, hown, hels, hb⟩ := hrel
    have a2 := (hb.cell (p := ⟨g, o + 1, none⟩) hg).trans HA1.out
    have HO := Lib.hid hown
    have HE := Lib.hid hels
    have HB := Lib.hid hb
    have HP := Lib.hid hpp
    have hlen : pre.length + post.length = q := by rw [← HQ.out, hpp]; simp
    clear hown hels hb hpp
    cases post with
    | nil =>
      simp only [List.length_nil, Nat.add_zero] at hlen
      have HF : Hid (pre = t.ks) := Lib.hid (by rw [HP.out]; simp)
      have hlt : ¬ (pre.length : Int) < q := by omega
      have HLN := Lib.hid hlen
      clear hlen
      go_wp2_with fail
      go_ret
      exact ⟨_, _, rfl, HO.out, by have := HE.out; rwa [HF.out] at this, HB.out⟩
    | cons u rest =>
      simp only [List.length_cons] at hlen
      have hdr := HDR.out pre (u :: rest) HP.out
      rw [flats_cons] at hdr
      have hoku : okT many u := by have := HKS.out; rw [HP.out, okTs_append, okTs_cons] at this; exact this.2.1
      have hnx := nxt_at hdr hoku
      have hpl := part_lt hdr
      have hup := flat_pos u
      have hlt : (pre.length : Int) < q := by omega
      rw [HN.out] at hpl
      generalize hi : 1 + (flats pre).length = i at *
      generalize hm : (flat u).length = m at *
      have HNX := Lib.hid hnx
      have HDRU : Hid (((flat t).drop i).take (i + m - i) = u.nd :: flats u.ks) := Lib.hid (by
        rw [hdr, show i + m - i = m by omega, ← hm, List.take_left, ← flat_eq])
      have HIX : Hid (1 + (flats (pre ++ [u])).length = i + m) := Lib.hid (by rw [flats_append, flats_cons]; simp; omega)
      have HPL := Lib.hid hlen
      have HUM := Lib.hid hm
      clear hdr hoku hnx hi hm hlen
      have hib : i ≤ n := by omega
      have hOW := refOwn_any (.slice (some ⟨g, o, none⟩) n c) (flat t) i (i + m) u.nd (flats u.ks) wr (HV.out.below HB.out) (by rw [HN.out]; exact hl) (by omega) (by rw [HN.out]; exact hpl) HDRU.out
      rw [Int.natCast_add] at hOW
      have HOW := Lib.hid hOW
      clear hOW
      go_wp2_with (go_at_call 33; refine (refNext_any _ (flat t) i _ (HV.out.below HB.out) (by rw [HN.out]; exact hl) (by rw [HN.out]; exact hib)).mono ?_; rintro e w' ⟨rfl, rfl⟩; rw [HNX.out])
      refine HOW.out.mono ?_
      rintro e w1 ⟨v1, rfl, ho1, hb1⟩
      obtain ⟨A1, c1, rfl, -⟩ := ho1.form
      have HZ : Hid (OwnN w.heap.size w1 (.slice A1 (noName u.nd :: flats u.ks).length c1) (flat (nmd [] u))) := Lib.hid (by rw [nmd, flat_mk]; exact ho1.mono HB.out.size)
      have HO1 := Lib.hid (HO.out.below hb1)
      have HE1 := Lib.hid (HE.out.below hb1)
      have HB1 := Lib.hid (Below.after HB.out hb1)
      clear ho1 hb1 a2
      generalize (noName u.nd :: flats u.ks).length = m2 at HZ ⊢
      have HZL : Hid (zs.length + 1 ≤ 65537) := Lib.hid (by have := HE1.out.1; rw [List.length_map] at this; omega)
      go_wp2_with (at_builtin; refine wpList_append_row (base := w.heap.size) elVal rfl _ _ rfl rfl (HO1.out.alloc _) rfl (row_one slc_len w1 _ rfl 24 #[.slice A1 m2 c1] (A1, m2, c1) rfl) ?_ ?_ ?_ ?_)
      · have := HZL.out; unfold maxLen; simp only [List.length_singleton]; omega
      · have := HZL.out; simp only [List.length_singleton]; omega
      · have := HB1.out.size; simp; omega
      · intro A' c' w2 hown2 hg2 hwh
        clear hwh
        have HO2 : Hid (Own slc 1 24 w.heap.size w2 (.slice A' (zs.length + 1) c') (zs ++ [(A1, m2, c1)])) := Lib.hid hown2
        have HE2 : Hid (Elems w.heap.size w2 (zs ++ [(A1, m2, c1)]) ((pre ++ [u]).map fun k => flat (nmd [] k))) := Lib.hid (by
          have h1 : Elems w.heap.size w2 zs (pre.map fun k => flat (nmd [] k)) := (HE1.out.below ((Below.refl _ _).alloc (Nat.le_refl _) _)).aside (HO1.out.alloc _) hg2
          have h2 : OwnN w.heap.size w2 (.slice A1 m2 c1) (flat (nmd [] u)) := Own.aside (HZ.out.alloc _) (HO1.out.alloc _) (by decide) hg2
          rw [List.map_append]
          exact h1.snoc h2)
        have HB2 : Hid (Below w.heap.size w w2) := Lib.hid ((HB1.out.alloc HB1.out.size _).trans ((HO1.out.alloc _).kept hg2 (by have := HB1.out.size; simp; omega)))
        clear hown2 hg2
        generalize zs.length + 1 = zl at HO2 ⊢
        go_wp2_with fail
        go_roundw
        case rel => exact ⟨pre ++ [u], rest, zs ++ [(A1, m2, c1)], by rw [HP.out]; simp, by simp, by rw [HIX.out]; go_num, HO2.out, HE2.out, HB2.out⟩
        case measure => simp [intOf]; omega

theorem refParts_any (v : Value) (t : Tr Nd) (w : World) (hv : Nds w v (flat t)) (hl : (flat t).length ≤ 65536) (ht : Val t) :
    Calls Tryz.prog 36 #[v] w (GivesV w (t.ks.map fun k => flat (nmd [] k))) :=
  (refParts_own v t w hv hl ht).mono fun _ _ ⟨v', _, h1, h2, h3, h4⟩ => ⟨v', h1, h3.vls (h2.row slc_len), h4⟩

set_option maxRecDepth 100000 in
set_option maxHeartbeats 4000000 in
theorem refNames_own (v : Value) (t : Tr Nd) (w : World) (hv : Nds w v (flat t)) (hl : (flat t).length ≤ 65536) (ht : Val t) :
    Calls Tryz.prog 56 #[v] w (OwnsS w (namesT t)) := by
  have hvo := hv
  obtain ⟨g, o, c, rfl, hc, hcm, hg, hx⟩ := hvo.opened (flat_pos t)
  have hmany : t.nd.many = t.ks.length := (okT_eq.1 ht.ok).1
  have a1 : w.cell? ⟨g, o + 1, none⟩ = some (.int .i64 (t.ks.length : Nat)) := by
    have := (hx 0 t.nd (by rw [flat_eq]; rfl)).nd.c1
    rw [hmany] at this
    simpa using this
  have a0 : w.cell? ⟨g, o, none⟩ = some (.int .i64 t.nd.kind) := by
    have := (hx 0 t.nd (by rw [flat_eq]; rfl)).nd.c0
    simpa using this
  have HA1 := Lib.hid a1
  have HV := Lib.hid hv
  have HXX := Lib.hid hx
  have HKS := Lib.hid (okT_eq.1 ht.ok).2
  have hkl : t.ks.length ≤ 65536 := by
    have h1 := flats_len t.ks
    rw [flat_eq] at hl
    simp at hl
    omega
  have hpos := flat_pos t
  have HDR : Hid (∀ pre post, t.ks = pre ++ post → (flat t).drop (1 + (flats pre).length) = flats post) := Lib.hid (fun pre post h => by
    rw [flat_eq, h, flats_append, Nat.add_comm, List.drop_succ_cons, List.drop_left])
  clear hx hv hvo hmany a1
  generalize hn : (flat t).length = n at *
  have HN := Lib.hid hn
  clear hn
  generalize hq : t.ks.length = q at *
  have HQ := Lib.hid hq
  clear hq
  have HO0 : Hid (Own stc 1 9 w.heap.size (w.alloc (.cells #[] 9)) (.slice (some ⟨w.heap.size, 0, none⟩) 0 0) []) := Lib.hid (by
    have := Own.lit (base := w.heap.size) (E := 9) stc_len w #[] [] (Nat.le_refl _) (by simp) rfl
    simpa using this)
  by_cases hk : t.nd.kind = 6
  · have HNT : Hid (namesT t = t.ks.map fun k => k.nd.name) := Lib.hid (by rw [namesT, if_pos hk])
    rw [hk] at a0
    have HA0 := Lib.hid a0
    clear a0 hk
    go_enter Tryz.func56, Tryz.ntmps56
    go_wp2_with fail
    go_loopw [3, 4, 5] (fun ov iv kv wr => ∃ (pre post : List (Tr Nd)), t.ks = pre ++ post ∧ kv = .int .i64 pre.length ∧ iv = .int .i64 (1 + (flats pre).length : Nat) ∧ Own stc 1 9 w.heap.size wr ov (pre.map fun k => k.nd.name) ∧ Below w.heap.size w wr) (fun _ _ kv _ => q - (intOf kv).toNat)
    case atStart => exact ⟨[], t.ks, rfl, rfl, rfl, HO0.out, (Below.refl _ _).alloc (Nat.le_refl _) _⟩
    case round =>
      obtain ⟨pre, post, hpp, rfl, rfl, hown, hb⟩ := hrel
      have a2 := (hb.cell (p := ⟨g, o + 1, none⟩) hg).trans HA1.out
      have a3 := (hb.cell (p := ⟨g, o, none⟩) hg).trans HA0.out
      have HO := Lib.hid hown
      have HB := Lib.hid hb
      have HP := Lib.hid hpp
      have hlen : pre.length + post.length = q := by rw [← HQ.out, hpp]; simp
      clear hown hpp
      cases post with
      | nil =>
        simp only [List.length_nil, Nat.add_zero] at hlen
        have HF : Hid (pre = t.ks) := Lib.hid (by rw [HP.out]; simp)
        have hlt : ¬ (pre.length : Int) < q := by omega
        clear hlen hb
        go_wp2_with fail
        go_ret
        exact ⟨_, rfl, by rw [HNT.out, ← HF.out]; exact HO.out, HB.out⟩
      | cons u rest =>
        simp only [List.length_cons] at hlen
        have hdr := HDR.out pre (u :: rest) HP.out
        rw [flats_cons] at hdr
        have hoku : okT many u := by have := HKS.out; rw [HP.out, okTs_append, okTs_cons] at this; exact this.2.1
        have hnx := nxt_at hdr hoku
        have hpl := part_lt hdr
        have hup := flat_pos u
        have hlt : (pre.length : Int) < q := by omega
        have hhd := head_at hdr
        rw [HN.out] at hpl
        generalize hi : 1 + (flats pre).length = i at *
        have b2 := (hb.cell (p := ⟨g, o + i * 6 + 2, none⟩) hg).trans (HXX.out i _ hhd).nd.c2
        generalize hm : (flat u).length = m at *
        have HNX := Lib.hid hnx
        have HIX : Hid (1 + (flats (pre ++ [u])).length = i + m) := Lib.hid (by rw [flats_append, flats_cons]; simp; omega)
        have HPL : Hid (pre.length + 1 ≤ 65537) := Lib.hid (by omega)
        have hii : (i : Int) < n := by omega
        have hiin : i < n := by omega
        generalize hnm : u.nd.name = nm at b2
        have HNM := Lib.hid hnm
        have hprel : (pre.map fun k => k.nd.name).length = pre.length := by simp
        generalize hpn : (pre.map fun k => k.nd.name) = pn at HO hprel
        have HPN := Lib.hid hpn
        have HPNL := Lib.hid hprel
        have hlq := hlen
        clear hdr hoku hnx hi hm hlen hhd hnm hpn hprel hb
        have HLQ := Lib.hid hlq
        clear hlq
        go_wp2_with (at_builtin; refine wpList_append_row (base := w.heap.size) elText rfl _ _ rfl rfl (HO.out.alloc _) rfl (row_one stc_len wr _ rfl 9 #[.string ⟨nm.toArray⟩] nm rfl) ?_ ?_ ?_ ?_)
        · have := HPL.out; have := HPNL.out; unfold maxLen; simp only [List.length_singleton]; omega
        · have := HPL.out; have := HPNL.out; simp only [List.length_singleton]; omega
        · have := HB.out.size; simp; omega
        · intro A' c' w2 hown2 hg2 hwh
          clear hwh
          have HO2 : Hid (Own stc 1 9 w.heap.size w2 (.slice A' (pn.length + 1) c') (pn ++ [nm])) := Lib.hid hown2
          have HB2 : Hid (Below w.heap.size w w2) := Lib.hid ((HB.out.alloc HB.out.size _).trans ((HO.out.alloc _).kept hg2 (by have := HB.out.size; simp; omega)))
          clear hown2 hg2
          generalize pn.length + 1 = zl at HO2 ⊢
          have hib : i ≤ n := by omega
          clear a2 a3 b2
          go_wp2_with (go_at_call 33; refine (refNext_any _ (flat t) i _ (HV.out.below HB2.out) (by rw [HN.out]; exact hl) (by rw [HN.out]; exact hib)).mono ?_; rintro e w' ⟨rfl, rfl⟩; rw [HNX.out])
          go_roundw
          case rel => exact ⟨pre ++ [u], rest, by rw [HP.out]; simp, by simp, by rw [HIX.out]; go_num, by rw [List.map_append, HPN.out]; have := HO2.out; rw [← HNM.out] at this; exact this, HB2.out⟩
          case measure => have := HLQ.out; simp [intOf]; omega
  · have HNT : Hid (namesT t = []) := Lib.hid (by rw [namesT, if_neg hk])
    have e6 : (t.nd.kind == 6) = false := by simp [hk]
    have a1 := HA1.out
    clear hk
    go_enter Tryz.func56, Tryz.ntmps56
    go_wp2_with fail
    go_loopw [3, 4, 5] (fun ov iv kv wr => kv = .int .i64 0 ∧ ov = .slice (some ⟨w.heap.size, 0, none⟩) 0 0 ∧ wr = w.alloc (.cells #[] 9)) (fun _ _ _ _ => 0)
    case atStart => exact ⟨rfl, rfl, rfl⟩
    case round =>
      obtain ⟨rfl, rfl, rfl⟩ := hrel
      by_cases hq0 : 0 < q
      · have hq1 : (0 : Int) < q := by omega
        go_wp2_with fail
        go_ret
        exact ⟨_, rfl, by rw [HNT.out]; exact HO0.out, (Below.refl _ _).alloc (Nat.le_refl _) _⟩
      · have hq1 : ¬ (0 : Int) < q := by omega
        go_wp2_with fail
        go_ret
        exact ⟨_, rfl, by rw [HNT.out]; exact HO0.out, (Below.refl _ _).alloc (Nat.le_refl _) _⟩
theorem refNames_any (v : Value) (t : Tr Nd) (w : World) (hv : Nds w v (flat t)) (hl : (flat t).length ≤ 65536) (ht : Val t) :
    Calls Tryz.prog 56 #[v] w (GivesS w (namesT t)) :=
  (refNames_own v t w hv hl ht).mono fun _ _ ⟨v', h1, h2, h4⟩ => ⟨v', h1, h2.row stc_len, h4⟩
end Go.Proofs.YtbgciajfjllciaaGreatDoor

/-
  What the document's own answer Depth is.
-/
namespace Go.Proofs.YtbgciajfjllciaaGreatDoor
open Go.RowKit Np Rw Vp

theorem depths_snoc : ∀ (ts : List (Tr Nd)) (u : Tr Nd), depths (ts ++ [u]) = max (depths ts) (depth u)
  | [], u => by simp
  | t :: ts, u => by rw [List.cons_append, depths_cons, depths_snoc ts u, depths_cons]; omega

mutual
theorem depth_le : ∀ t : Tr Nd, depth t ≤ (flat t).length
  | .mk n ks => by
    have := depths_le2 ks
    rw [depth_mk, flat_mk, List.length_cons]
    split <;> omega
theorem depths_le2 : ∀ ts : List (Tr Nd), depths ts ≤ (flats ts).length
  | [] => by simp
  | t :: ts => by
    have h1 := depth_le t
    have h2 := depths_le2 ts
    rw [depths_cons, flats_cons, List.length_append]
    omega
end

set_option maxRecDepth 100000 in
set_option maxHeartbeats 4000000 in
theorem refDepth_upto : ∀ (N : Nat) (t : Tr Nd), (flat t).length ≤ N → ∀ (v : Value) (w : World), Nds w v (flat t) → (flat t).length ≤ 65536 → Val t →
    Calls Tryz.prog 20 #[v] w fun e w' => e = .returned (.int .i64 (depth t : Nat)) ∧ Below w.heap.size w w'
  | 0, t, h, _, _, _, _, _ => absurd h (by have := flat_pos t; omega)
  | N + 1, t, hN, v, w, hv, hl, ht => by
    have IH := Lib.hid (refDepth_upto N)
    have hvo := hv
    obtain ⟨g, o, c, rfl, hc, hcm, hg, hx⟩ := hvo.opened (flat_pos t)
    have a0 : w.cell? ⟨g, o, none⟩ = some (.int .i64 t.nd.kind) := by
      have := (hx 0 t.nd (by rw [flat_eq]; rfl)).nd.c0
      simpa using this
    have HPA := Lib.hid (refParts_any _ t w hv hl ht)
    have HT := Lib.hid ht
    have hpos := flat_pos t
    have hfl : (flat t).length = 1 + (flats t.ks).length := by rw [flat_eq]; simp; omega
    have HFL := Lib.hid hfl
    have HNN := Lib.hid hN
    have HL := Lib.hid hl
    clear hx hv hvo hfl hN
    generalize hn : (flat t).length = n at *
    clear hn
    by_cases hcn : t.nd.kind = 5 ∨ t.nd.kind = 6
    · have HD : Hid (depth t = depths t.ks + 1) := Lib.hid (by rw [depth_eq, if_pos (by rcases hcn with h | h <;> rw [h] <;> rfl)])
      have e56 : (t.nd.kind != 5) = false ∨ (t.nd.kind != 5) = true ∧ (t.nd.kind != 6) = false := by
        rcases hcn with h | h
        · exact .inl (by simp [h])
        · exact .inr ⟨by simp [h], by simp [h]⟩
      clear hcn
      rcases e56 with e5 | ⟨e5, e6⟩
      all_goals
        go_enter Tryz.func20, Tryz.ntmps20
        go_wp2_with fail
        refine HPA.out.mono ?_
        rintro e w1 h1
        obtain ⟨A1, c1, rfl, hp1, hb1⟩ := h1.is (n := t.ks.length) (by simp)
        obtain ⟨us, hul, ⟨A1', c1', hv1, -, -, -, hx1⟩, hue⟩ := hp1
        injection hv1 with e1 e2 e3
        subst e1 e3
        rw [← e2] at hx1
        have HX1 := Lib.hid hx1
        have HUE := Lib.hid hue
        have HUL : Hid (us.length = t.ks.length) := Lib.hid e2.symm
        have HB1 := Lib.hid hb1
        clear hul hx1 hue e2 h1 hb1
        have hq60 : t.ks.length ≤ 65536 := by
          have h1 := flats_len t.ks
          have h2 := HFL.out
          have := HL.out
          omega
        generalize hq : t.ks.length = q at *
        have HQ := Lib.hid hq; clear hq
        go_wp2_with fail
        go_loopw [4, 5] (fun nv iv wr => ∃ k d : Nat, k ≤ q ∧ iv = .int .i64 k ∧ nv = .int .i64 (d : Nat) ∧ d = depths (t.ks.take k) ∧ Below w1.heap.size w1 wr) (fun _ iv _ => q - (intOf iv).toNat)
        case atStart => exact ⟨0, 0, Nat.zero_le _, rfl, rfl, by simp, Below.refl _ _⟩
        case round =>
          obtain ⟨k, d, hk, rfl, rfl, hd, hb⟩ := hrel
          have HDD := Lib.hid hd
          have HB := Lib.hid hb
          clear hd
          by_cases hlt : k < q
          · obtain ⟨g8, o8, rfl, hg8, hx8⟩ := HX1.out (by omega)
            obtain ⟨x, hxk⟩ : ∃ a, us[k]? = some a := ⟨_, List.getElem?_eq_getElem (by rw [HUL.out]; exact hlt)⟩
            obtain ⟨kk, hkk⟩ : ∃ a, t.ks[k]? = some a := ⟨_, List.getElem?_eq_getElem (by rw [HQ.out]; exact hlt)⟩
            have b0 := (hb.cell (p := ⟨g8, o8 + k, none⟩) hg8).trans (hx8 k x hxk).one
            have HRX : Hid (Nds wr x (flat (nmd [] kk))) := Lib.hid ((HUE.out k x _ hxk (by rw [List.getElem?_map, hkk]; rfl)).below hb)
            have hmem := List.mem_of_getElem? hkk
            have HMEM := Lib.hid hmem
            have HKL : Hid ((flat (nmd [] kk)).length ≤ N ∧ (flat (nmd [] kk)).length ≤ 65536) := Lib.hid (by
              rw [flat_nmd_len]
              have h1 := len_flats hmem
              have h2 := HFL.out
              have h3 := HNN.out
              have h4 := HL.out
              omega)
            have HDS : Hid (depths (t.ks.take (k + 1)) = max d (depth kk)) := Lib.hid (by rw [List.take_add_one, hkk, HDD.out]; exact depths_snoc _ _)
            have HC := Lib.hid (IH.out (nmd [] kk) HKL.out.1 x wr HRX.out HKL.out.2 (part_val HT.out HMEM.out))
            rw [depth_nmd] at HC
            generalize depth kk = dk at HC HDS
            clear hmem hkk hxk hx8 hb
            go_wp2_with fail
            refine HC.out.mono ?_
            rintro e w2 ⟨rfl, hb2⟩
            have HB2 := Lib.hid (Below.after HB.out hb2)
            clear hb2 b0
            go_wp2_with fail
            go_roundw
            case rel => exact ⟨k + 1, max d dk, by omega, by go_num, by congr 1; omega, HDS.out.symm, HB2.out⟩
            case measure => simp [intOf]; omega
          · have HE : Hid (depth t = d + 1) := Lib.hid (by rw [HD.out, HDD.out, List.take_of_length_le (by rw [HQ.out]; omega)])
            have hdb : d ≤ 65536 := by
              have h1 := depths_le2 t.ks
              have h2 := HDD.out
              rw [List.take_of_length_le (by rw [HQ.out]; omega)] at h2
              have h3 := HFL.out
              have h4 := HL.out
              omega
            go_wp2_with fail
            go_ret
            exact ⟨ret_i64 (by rw [HE.out]; go_num), Below.after HB1.out HB.out⟩
    · have HD : Hid (depth t = 0) := Lib.hid (depth_leaf (fun h => hcn (.inl h)) (fun h => hcn (.inr h)))
      have e5 : (t.nd.kind != 5) = true := by simp; exact fun h => hcn (.inl h)
      have e6 : (t.nd.kind != 6) = true := by simp; exact fun h => hcn (.inr h)
      clear hcn
      go_enter Tryz.func20, Tryz.ntmps20
      go_wp2_with fail
      go_ret
      exact ⟨ret_i64 (by rw [HD.out]; rfl), Below.refl _ _⟩
end Go.Proofs.YtbgciajfjllciaaGreatDoor

/-
  The walk of TextBack: it answers true.
-/
namespace Go.Proofs.YtbgciajfjllciaaGreatDoor
open Go.RowKit Np Rw Vp Up Qp Tp

theorem run_plain : ∀ (l : List Nd) (st : List Hd), Vp.run st l = true → ∀ x ∈ l, plainN x = true
  | [], _, _, x, hx => by cases hx
  | n :: l, [], h, x, hx => by simp [Vp.run] at h
  | n :: l, h :: st, hr, x, hx => by
    rw [run_cons, Bool.and_eq_true, Bool.and_eq_true] at hr
    rcases List.mem_cons.1 hx with rfl | hx
    · exact hr.1.2
    · exact run_plain l _ hr.2 x hx
theorem val_plain {t : Tr Nd} (h : Val t) : ∀ x ∈ flat t, plainN x = true := run_plain _ _ (rightL_val h)
theorem fit_plain {n : Nd} (hp : plainN n = true) (h1 : n.name.length ≤ 1000000) (h2 : n.s.length ≤ 1000000) : FitN n := by
  unfold plainN at hp
  split at hp
  · rename_i h
    simp at hp
    exact ⟨by omega, by omega, h2, h1, by omega, by omega⟩
  · split at hp
    · rename_i h
      obtain ⟨b1, b2, b3⟩ := right_bounds hp
      simp only at b2 b3
      exact ⟨by omega, by omega, h2, h1, by omega, by omega⟩
    · split at hp
      · simp at hp
        exact ⟨by omega, by omega, h2, h1, by omega, by omega⟩
      · split at hp
        · simp at hp
          exact ⟨by omega, by omega, h2, h1, by omega, by omega⟩
        · cases hp
theorem fitT_of {t : Tr Nd} (hv : Val t) (hs : ∀ x ∈ flat t, x.name.length ≤ 1000000 ∧ x.s.length ≤ 1000000) (hl : (flat t).length ≤ 1000) : FitT t :=
  ⟨hv.ok, hv.rt, fun x hx => fit_plain (val_plain hv x hx) (hs x hx).1 (hs x hx).2, hl⟩
theorem wS_small : ∀ {l : List Nd}, (∀ x ∈ l, x.name.length ≤ 200 ∧ x.s.length ≤ 200) → wS l ≤ 2400 * l.length
  | [], _ => by simp [wS]
  | x :: l, h => by
    have h1 := wS_small fun y hy => h y (List.mem_cons_of_mem _ hy)
    have h2 := h x (by simp)
    have h3 := (wrs_len x.name).2
    have h4 := (wrs_len x.s).2
    rw [wS_cons, List.length_cons, wN]
    split <;> omega
theorem wN_mem : ∀ {l : List Nd} {x : Nd}, x ∈ l → wN x ≤ wS l
  | y :: l, x, h => by
    rw [wS_cons]
    rcases List.mem_cons.1 h with rfl | h
    · omega
    · have := wN_mem h; omega
theorem sizes_of {l : List Nd} {B : Nat} (hp : ∀ x ∈ l, plainN x = true) (h : wS l ≤ B) (hB : 100 ≤ B) : ∀ x ∈ l, x.name.length ≤ B ∧ x.s.length ≤ B := by
  intro x hx
  have h1 := wN_mem hx
  have h2 := (wrs_len x.name).1
  have h3 := (wrs_len x.s).1
  have h4 := hp x hx
  rw [wN] at h1
  refine ⟨by omega, ?_⟩
  unfold plainN at h4
  split at h4
  · simp at h4; rw [h4.1.1.2]; simp
  · split at h4
    · have := (right_bounds h4).1; simp only at this; omega
    · split at h4
      · rename_i hk; rw [if_pos hk] at h1; omega
      · split at h4
        · simp at h4; rw [h4.1.1.2]; simp
        · cases h4
theorem parse_back (ln : Bool) {t : Tr Nd} (hv : Val t) (hd : depth t ≤ 128) : prsR (prT ln 0 t) = (flat t, 0, 0) := by
  have hb := back ln (prT ln 0 t) _ t 0 128 (Nat.le_refl _) hv.ok hv.rt hd 0 [] [] Blk.nil (by simp) Stop.nil
  have e : nmd [] t = t := by conv => rhs; rw [← nmd_self t, hv.nm]
  simp only [e, List.length_nil, Nat.zero_add] at hb
  exact prs_ok hb (by rw [sk_over (Nat.le_refl _)]; omega)
theorem depth_len (t : Tr Nd) : depth t ≤ (flat t).length := by
  have := depths_le2 t.ks
  rw [depth_eq, flat_eq, List.length_cons]
  split <;> omega

/-- Parse answers this value. -/
def BackE (t : Tr Nd) (w : World) (e : Ending) (w' : World) : Prop :=
  ∃ (A : Option Addr) (m c : Nat), e = .returned (.tuple #[.slice A m c, .int .i64 0, .int .i64 0]) ∧ Hid (Nds w' (.slice A m c) (flat t)) ∧ Hid (Below w.heap.size w w')
theorem back_calls (ln : Bool) {t : Tr Nd} (hv : Val t) (hd : depth t ≤ 128) (hz : (prT ln 0 t).length ≤ 200000) (w : World) (hT : Tv w) :
    Calls Tryz.prog 11 #[.string ⟨(prT ln 0 t).toArray⟩] w (BackE t w) := by
  refine (parse_any ⟨(prT ln 0 t).toArray⟩ w (by rw [mk_size]; exact hz) hT.er hT.tabs hT.wds).mono ?_
  rintro e w' ⟨V, he, hV, hb⟩
  change e = .returned (.tuple #[V, .int .i64 ((prsR (prT ln 0 t)).2.1 : Nat), .int .i64 (prsR (prT ln 0 t)).2.2]) at he
  change OwnN w.heap.size w' V (prsR (prT ln 0 t)).1 at hV
  rw [parse_back ln hv hd] at he hV
  obtain ⟨A, c, rfl, h⟩ := hV.row ndc_len
  exact ⟨A, _, c, he, Lib.hid ⟨A, c, rfl, h⟩, Lib.hid hb⟩
/-- A value's two texts: they are written, and read again as it. -/
structure Texts (t : Tr Nd) (TC TI : ByteArray) : Prop where
  c : ∀ w v, Nds w v (flat t) → Tv w → Calls Tryz.prog 15 #[v] w fun e w' => e = .returned (.string TC) ∧ Below w.heap.size w w'
  i : ∀ w v, Nds w v (flat t) → Tv w → Calls Tryz.prog 17 #[v] w fun e w' => e = .returned (.string TI) ∧ Below w.heap.size w w'
  pc : ∀ w, Tv w → Calls Tryz.prog 11 #[.string TC] w (BackE t w)
  pi : ∀ w, Tv w → Calls Tryz.prog 11 #[.string TI] w (BackE t w)
theorem texts_of {l : List Nd} (h : few 60 l = true) : ∃ t TC TI, l = flat t ∧ Texts t TC TI := by
  unfold few at h
  rw [Bool.and_eq_true, Bool.and_eq_true] at h
  obtain ⟨⟨h1, h2⟩, h3⟩ := h
  have h1 := of_decide_eq_true h1
  obtain ⟨t, hv, rfl⟩ := val_of_rightL h3
  have hs : ∀ x ∈ flat t, x.name.length ≤ 200 ∧ x.s.length ≤ 200 := by
    intro x hx
    have := List.all_eq_true.1 h2 x hx
    simp [shortN] at this
    exact ⟨this.2, this.1⟩
  have hF : FitT t := fitT_of hv (fun x hx => ⟨by have := (hs x hx).1; omega, by have := (hs x hx).2; omega⟩) (by omega)
  have hd := depth_len t
  have hw := wS_small hs
  have hc := compact_len hv.ok hv.rt
  have hi := indent_len hv.ok hv.rt (D := 60) (by omega)
  refine ⟨t, _, _, rfl, fun w v hv2 hT => compact_any t v w hF hv2 (by omega) hT.pow hT.wds, fun w v hv2 hT => indent_any t v w hF hv2 (by omega) hT.pow hT.wds, fun w hT => back_calls false hv (by omega) (by omega) w hT, fun w hT => back_calls true hv (by omega) (by omega) w hT⟩
/-- What any text is read as. -/
structure Right9 (t : Tr Nd) (s TW : ByteArray) : Prop where
  p : ∀ w, Tv w → Calls Tryz.prog 11 #[.string s] w (BackE t w)
  c : ∀ w v, Nds w v (flat t) → Tv w → Calls Tryz.prog 15 #[v] w fun e w' => e = .returned (.string TW) ∧ Below w.heap.size w w'
  pc : ∀ w, Tv w → Calls Tryz.prog 11 #[.string TW] w (BackE t w)
  r : ∀ w v, Nds w v (flat t) → Calls Tryz.prog 19 #[v] w fun e w' => e = .returned (.bool true) ∧ Below w.heap.size w w'
  d : ∃ d : Int, d ≤ 128 ∧ ∀ w v, Nds w v (flat t) → Calls Tryz.prog 20 #[v] w fun e w' => e = .returned (.int .i64 d) ∧ Below w.heap.size w w'
set_option maxRecDepth 100000 in
theorem read_of (s : ByteArray) (hs : s.size ≤ 600) : (∃ t TW, Right9 t s TW) ∨
    ∃ p e : Int, 0 ≤ p ∧ p ≤ (s.size : Int) ∧ ¬ e = 0 ∧ ∀ w, Tv w → Calls Tryz.prog 11 #[.string s] w fun en w' => ∃ (A : Option Addr) (c : Nat), en = .returned (.tuple #[.slice A 0 c, .int .i64 p, .int .i64 e]) ∧ Hid (Below w.heap.size w w') := by
  have hl : s.data.toList.length = s.size := by rw [Array.length_toList]; rfl
  rcases prsR_cases s.data.toList with ⟨⟨t, hv, ht, hd⟩, h2, h3, h4, h5⟩ | ⟨h1, h2⟩
  · refine .inl ⟨t, ⟨(prT false 0 t).toArray⟩, ?_⟩
    rw [ht] at h2 h3
    have hz := sizes_of (B := 600) (val_plain hv) (by omega) (by decide)
    have hF : FitT t := fitT_of hv (fun x hx => ⟨by have := (hz x hx).1; omega, by have := (hz x hx).2; omega⟩) (by omega)
    have hc := compact_len hv.ok hv.rt
    have hsh : Short (flat t) := fun x hx => ⟨by have := (hz x hx).1; unfold maxLen; omega, by have := (hz x hx).2; unfold maxLen; omega⟩
    refine ⟨fun w hT => ?_, fun w v hv2 hT => compact_any t v w hF hv2 (by omega) hT.pow hT.wds, fun w hT => back_calls false hv hd (by omega) w hT, fun w v hv2 => ?_, ⟨((depth t : Nat) : Int), by omega, fun w v hv2 => refDepth_upto _ t (Nat.le_refl _) v w hv2 (by omega) hv⟩⟩
    · refine (parse_any s w (by omega) hT.er hT.tabs hT.wds).mono ?_
      rintro e w' ⟨V, he, hV, hb⟩
      rw [h4, h5] at he
      rw [ht] at hV
      obtain ⟨A, c, rfl, h⟩ := hV.row ndc_len
      exact ⟨A, _, c, he, Lib.hid ⟨A, c, rfl, h⟩, Lib.hid hb⟩
    · have := refRightV_any v (flat t) w hv2 (by omega) hsh
      rwa [rightL_val hv] at this
  · refine .inr ⟨((prsR s.data.toList).2.1 : Nat), (prsR s.data.toList).2.2, by omega, by have := h2.2; omega, by have := h2.1; omega, fun w hT => ?_⟩
    refine (parse_any s w (by omega) hT.er hT.tabs hT.wds).mono ?_
    rintro e w' ⟨V, he, hV, hb⟩
    rw [h1] at hV
    obtain ⟨A, c, rfl, -⟩ := hV.form
    exact ⟨A, c, he, Lib.hid hb⟩
theorem same_true (va vb : Value) (l : List Nd) (w : World) (ha : Nds w va l) (hb : Nds w vb l) : Calls Tryz.prog 13 #[va, vb] w fun e w' => e = .returned (.bool true) ∧ Below w.heap.size w w' := by
  have := refSame_any va vb l l w ha hb
  rwa [decide_eq_true (rfl : l = l)] at this
end Go.Proofs.YtbgciajfjllciaaGreatDoor

/-
  The walk of TextBack: it answers true.
-/
namespace Go.Proofs.YtbgciajfjllciaaGreatDoor
open Go.RowKit Np Rw Vp Up Qp Tp

set_option maxRecDepth 100000 in
set_option maxHeartbeats 4000000 in
theorem textBack_any (v : Value) (l : List Nd) (s : ByteArray) (w : World) (hv : Nds w v l) (hT : Tv w) :
    Calls Tryz.prog 5 #[v, .string s] w fun e w' => e = .returned (.bool true) ∧ Below w.heap.size w w' := by
  have HT := Lib.hid hT
  have HV := Lib.hid hv
  have HFE := Lib.hid (refFew_any v l 60 w hv (by omega))
  obtain ⟨A0, N0, c0, rfl⟩ : ∃ (A : Option Addr) (N c : Nat), v = .slice A N c := by obtain ⟨A, c, h, -⟩ := hv; exact ⟨A, _, c, h⟩
  clear hv hT
  cases hf : few 60 l with
  | false =>
    rw [hf] at HFE
    go_enter Tryz.func5, Tryz.ntmps5
    go_wp2_with (first
      | (go_at_call 14; refine HFE.out.mono ?_; rintro e w1 ⟨rfl, hb1⟩; have HB1 := Lib.hid hb1; have HT1 := Lib.hid (HT.out.below hb1); clear hb1)
      | (go_at_call 10; refine (alive_any _ HT1.out).mono ?_; rintro e w2 ⟨rfl, hb2⟩))
    go_ret
    exact ⟨rfl, Below.after HB1.out hb2⟩
  | true =>
    rw [hf] at HFE
    by_cases hs : 600 < s.size
    · go_enter Tryz.func5, Tryz.ntmps5
      go_wp2_with (first
        | (go_at_call 14; refine HFE.out.mono ?_; rintro e w1 ⟨rfl, hb1⟩; have HB1 := Lib.hid hb1; have HT1 := Lib.hid (HT.out.below hb1); clear hb1)
        | (go_at_call 10; refine (alive_any _ HT1.out).mono ?_; rintro e w2 ⟨rfl, hb2⟩))
      go_ret
      exact ⟨rfl, Below.after HB1.out hb2⟩
    · obtain ⟨t, TC, TI, rfl, hX⟩ := texts_of hf
      have HX := Lib.hid hX
      clear hX hf
      rcases read_of s (by omega) with ⟨u, TW, hR⟩ | ⟨p, er, hp0, hp1, her, hR⟩
      · obtain ⟨dd, hd1, hd2⟩ := hR.d
        have HR := Lib.hid hR
        have HD := Lib.hid hd2
        clear hR hd2
        go_enter Tryz.func5, Tryz.ntmps5
        go_wp2_with fail
        go_at_call 14
        refine HFE.out.mono ?_
        rintro e w1 ⟨rfl, hb1⟩
        have HB1 := Lib.hid hb1
        have HT1 := Lib.hid (HT.out.below hb1)
        have HV1 := Lib.hid (HV.out.below hb1)
        clear hb1
        go_wp2_with fail
        go_at_call 15
        refine (HX.out.c _ _ HV1.out HT1.out).mono ?_
        rintro e w2 ⟨rfl, hb2⟩
        have HB2 := Lib.hid hb2
        have HT2 := Lib.hid (HT1.out.below hb2)
        have HV2 := Lib.hid (HV1.out.below hb2)
        clear hb2
        go_wp2_with fail
        go_at_call 11
        refine (HX.out.pc _ HT2.out).mono ?_
        rintro e w3 ⟨A3, m3, c3, rfl, HX3, HB3⟩
        have HT3 := Lib.hid (HT2.out.below HB3.out)
        have HV3 := Lib.hid (HV2.out.below HB3.out)
        go_wp2_with fail
        go_at_call 17
        refine (HX.out.i _ _ HV3.out HT3.out).mono ?_
        rintro e w4 ⟨rfl, hb4⟩
        have HB4 := Lib.hid hb4
        have HT4 := Lib.hid (HT3.out.below hb4)
        have HV4 := Lib.hid (HV3.out.below hb4)
        have HX4 := Lib.hid (HX3.out.below hb4)
        clear hb4
        go_wp2_with fail
        go_at_call 11
        refine (HX.out.pi _ HT4.out).mono ?_
        rintro e w5 ⟨A5, m5, c5, rfl, HY5, HB5⟩
        have HT5 := Lib.hid (HT4.out.below HB5.out)
        have HV5 := Lib.hid (HV4.out.below HB5.out)
        have HX5 := Lib.hid (HX4.out.below HB5.out)
        go_wp2_with fail
        go_at_call 13
        refine (same_true _ _ _ _ HX5.out HV5.out).mono ?_
        rintro e w6 ⟨rfl, hb6⟩
        have HB6 := Lib.hid hb6
        have HT6 := Lib.hid (HT5.out.below hb6)
        have HV6 := Lib.hid (HV5.out.below hb6)
        have HY6 := Lib.hid (HY5.out.below hb6)
        clear hb6
        go_wp2_with fail
        go_at_call 13
        refine (same_true _ _ _ _ HY6.out HV6.out).mono ?_
        rintro e w7 ⟨rfl, hb7⟩
        have HB7 := Lib.hid hb7
        have HT7 := Lib.hid (HT6.out.below hb7)
        clear hb7
        go_wp2_with fail
        go_at_call 11
        refine (HR.out.p _ HT7.out).mono ?_
        rintro e w8 ⟨A8, m8, c8, rfl, HW8, HB8⟩
        have HT8 := Lib.hid (HT7.out.below HB8.out)
        go_wp2_with fail
        go_at_call 15
        refine (HR.out.c _ _ HW8.out HT8.out).mono ?_
        rintro e w9 ⟨rfl, hb9⟩
        have HB9 := Lib.hid hb9
        have HT9 := Lib.hid (HT8.out.below hb9)
        have HW9 := Lib.hid (HW8.out.below hb9)
        clear hb9
        go_wp2_with fail
        go_at_call 11
        refine (HR.out.pc _ HT9.out).mono ?_
        rintro e wa ⟨Aa, ma, ca, rfl, HAa, HBa⟩
        have HTa := Lib.hid (HT9.out.below HBa.out)
        have HWa := Lib.hid (HW9.out.below HBa.out)
        go_wp2_with fail
        go_at_call 10
        refine (alive_any _ HTa.out).mono ?_
        rintro e wb ⟨rfl, hbb⟩
        have HBb := Lib.hid hbb
        have HAb := Lib.hid (HAa.out.below hbb)
        have HWb := Lib.hid (HWa.out.below hbb)
        clear hbb
        go_wp2_with fail
        go_at_call 19
        refine (HR.out.r _ _ HWb.out).mono ?_
        rintro e wc ⟨rfl, hbc⟩
        have HBc := Lib.hid hbc
        have HAc := Lib.hid (HAb.out.below hbc)
        have HWc := Lib.hid (HWb.out.below hbc)
        clear hbc
        go_wp2_with fail
        go_at_call 20
        refine (HD.out _ _ HWc.out).mono ?_
        rintro e wd ⟨rfl, hbd⟩
        have HBd := Lib.hid hbd
        have HAd := Lib.hid (HAc.out.below hbd)
        have HWd := Lib.hid (HWc.out.below hbd)
        clear hbd
        go_wp2_with fail
        go_at_call 13
        refine (same_true _ _ _ _ HAd.out HWd.out).mono ?_
        rintro e we ⟨rfl, hbe⟩
        go_wp2_with fail
        go_ret
        exact ⟨rfl, Below.after (Below.after (Below.after (Below.after (Below.after (Below.after (Below.after (Below.after (Below.after (Below.after (Below.after (Below.after (Below.after HB1.out HB2.out) HB3.out) HB4.out) HB5.out) HB6.out) HB7.out) HB8.out) HB9.out) HBa.out) HBb.out) HBc.out) HBd.out) hbe⟩
      · have HR := Lib.hid hR
        clear hR
        go_enter Tryz.func5, Tryz.ntmps5
        go_wp2_with fail
        go_at_call 14
        refine HFE.out.mono ?_
        rintro e w1 ⟨rfl, hb1⟩
        have HB1 := Lib.hid hb1
        have HT1 := Lib.hid (HT.out.below hb1)
        have HV1 := Lib.hid (HV.out.below hb1)
        clear hb1
        go_wp2_with fail
        go_at_call 15
        refine (HX.out.c _ _ HV1.out HT1.out).mono ?_
        rintro e w2 ⟨rfl, hb2⟩
        have HB2 := Lib.hid hb2
        have HT2 := Lib.hid (HT1.out.below hb2)
        have HV2 := Lib.hid (HV1.out.below hb2)
        clear hb2
        go_wp2_with fail
        go_at_call 11
        refine (HX.out.pc _ HT2.out).mono ?_
        rintro e w3 ⟨A3, m3, c3, rfl, HX3, HB3⟩
        have HT3 := Lib.hid (HT2.out.below HB3.out)
        have HV3 := Lib.hid (HV2.out.below HB3.out)
        go_wp2_with fail
        go_at_call 17
        refine (HX.out.i _ _ HV3.out HT3.out).mono ?_
        rintro e w4 ⟨rfl, hb4⟩
        have HB4 := Lib.hid hb4
        have HT4 := Lib.hid (HT3.out.below hb4)
        have HV4 := Lib.hid (HV3.out.below hb4)
        have HX4 := Lib.hid (HX3.out.below hb4)
        clear hb4
        go_wp2_with fail
        go_at_call 11
        refine (HX.out.pi _ HT4.out).mono ?_
        rintro e w5 ⟨A5, m5, c5, rfl, HY5, HB5⟩
        have HT5 := Lib.hid (HT4.out.below HB5.out)
        have HV5 := Lib.hid (HV4.out.below HB5.out)
        have HX5 := Lib.hid (HX4.out.below HB5.out)
        go_wp2_with fail
        go_at_call 13
        refine (same_true _ _ _ _ HX5.out HV5.out).mono ?_
        rintro e w6 ⟨rfl, hb6⟩
        have HB6 := Lib.hid hb6
        have HT6 := Lib.hid (HT5.out.below hb6)
        have HV6 := Lib.hid (HV5.out.below hb6)
        have HY6 := Lib.hid (HY5.out.below hb6)
        clear hb6
        go_wp2_with fail
        go_at_call 13
        refine (same_true _ _ _ _ HY6.out HV6.out).mono ?_
        rintro e w7 ⟨rfl, hb7⟩
        have HB7 := Lib.hid hb7
        have HT7 := Lib.hid (HT6.out.below hb7)
        clear hb7
        go_wp2_with fail
        go_at_call 11
        refine (HR.out _ HT7.out).mono ?_
        rintro e w8 ⟨A8, c8, rfl, HB8⟩
        have HT8 := Lib.hid (HT7.out.below HB8.out)
        go_wp2_with fail
        go_at_call 10
        refine (alive_any _ HT8.out).mono ?_
        rintro e w9 ⟨rfl, hb9⟩
        go_wp2_with fail
        go_ret
        exact ⟨rfl, Below.after (Below.after (Below.after (Below.after (Below.after (Below.after (Below.after (Below.after HB1.out HB2.out) HB3.out) HB4.out) HB5.out) HB6.out) HB7.out) HB8.out) hb9⟩
end Go.Proofs.YtbgciajfjllciaaGreatDoor

/-
  A card's argument that is a value: a row of nodes.
-/
namespace Go.Proofs.YtbgciajfjllciaaGreatDoor
open Go.ChangeShapes Go.WideShapes Go.ChangeAt Go.RowKit Go.Deep Np

theorem list_of {α : Type} (R : Nat → α → Prop) : ∀ n, (∀ i, i < n → ∃ y, R i y) → ∃ l : List α, l.length = n ∧ ∀ i y, l[i]? = some y → R i y
  | 0, _ => ⟨[], rfl, fun i y h => by simp at h⟩
  | n + 1, h => by
    obtain ⟨l, h1, h2⟩ := list_of R n (fun i hi => h i (by omega))
    obtain ⟨y, hy⟩ := h n (by omega)
    refine ⟨l ++ [y], by simp [h1], fun i z hz => ?_⟩
    rcases Nat.lt_or_ge i l.length with hi | hi
    · rw [List.getElem?_append_left hi] at hz; exact h2 i z hz
    · rw [List.getElem?_append_right hi] at hz
      have hi0 : i - l.length = 0 := by
        rcases Nat.eq_zero_or_pos (i - l.length) with h0 | h0
        · exact h0
        · rw [List.getElem?_eq_none (by simp; omega)] at hz; cases hz
      rw [hi0] at hz
      simp at hz
      subst hz
      rw [show i = n by omega]; exact hy
section
variable {H : Type} {enc : TypeId × Value → H} {P : Program} {w : World} {base : Nat} {sp : Nat → Bool} {held : Bool}
/-- A slice whose elements read as these. -/
theorem open_rows {α : Type} {en : α → List Value} {sz : Nat} {Q : α → DataW H → Prop} {t e : TypeId} {fuel : Nat} {v : Value} {x : DataW H × List MemPlace} (ht : P.underlying t = some (.slice e)) (hc : P.cellsOf e = sz) (hp : 0 < sz) (hl : ∀ y, (en y).length = sz)
    (rd : ∀ n cs d, DataW.trod enc P w base sp held n e cs = some d → ∃ y, cs = en y ∧ Q y d.1) (h : DataW.trod enc P w base sp held fuel t [v] = some x) :
    ∃ l : List α, Row en sz w v l ∧ (x.1 = .nil ∧ l = [] ∨ ∃ ds sp', x.1 = .slice ds sp' ∧ ds.length = l.length ∧ ∀ (i : Nat) (y : α), l[i]? = some y → ∃ d ∈ ds, Q y d) := by
  rcases open_slice ht h with ⟨h1, h2⟩ | ⟨a, len, cap, m, n, D, Pl, h1, hb, hle, hm, hmm, hx, hi⟩
  · simp at h1; subst h1
    exact ⟨[], Row.nil w, .inl ⟨by rw [h2], rfl⟩⟩
  · simp at h1; subst h1
    have hlm : len ≤ m := by rw [hmm]; split <;> omega
    obtain ⟨l, hll, hR⟩ := list_of (fun i (y : α) => w.cells? base (a.add (i * sz)) sz = some (en y) ∧ Q y (D i)) len (fun i hil => by
      obtain ⟨cs', h3, h4⟩ := hi i (by omega)
      obtain ⟨y, rfl, hQ⟩ := rd n cs' _ h4
      rw [hc] at h3
      exact ⟨y, h3, hQ⟩)
    refine ⟨l, ?_, .inr ⟨(List.range len).map D, _, by rw [hx], by simp [hll], fun i y hy => ⟨D i, ?_, (hR i y hy).2⟩⟩⟩
    · refine ⟨some a, cap, by rw [hll], by rw [hll]; exact hle, hm, fun h => (by cases h), fun h0 => ?_⟩
      obtain ⟨y0, hy0⟩ : ∃ y, l[0]? = some y := ⟨_, List.getElem?_eq_getElem h0⟩
      have h5 := (World.cells?_some (hR 0 y0 hy0).1).2.2 0 hp
      rw [Nat.zero_mul] at h5
      have e0 : (a.add 0).add 0 = a := by simp [Addr.add]
      rw [e0] at h5
      obtain ⟨u0, hu0⟩ : ∃ u, (en y0)[0]? = some u := ⟨_, List.getElem?_eq_getElem (by rw [hl]; exact hp)⟩
      rw [hu0] at h5
      have hspot := World.cell?_spot h5
      have hlt := World.block_lt_of_cell? _ _ h5
      obtain ⟨g, o, s⟩ := a
      simp only at hspot hlt
      subst hspot
      refine ⟨g, o, rfl, hlt, fun k y hk j u hu => ?_⟩
      have hj : j < sz := by rw [← hl y]; exact (List.getElem?_eq_some_iff.1 hu).1
      have h6 := (World.cells?_some (hR k y hk).1).2.2 j hj
      rw [hu, add_add] at h6
      rw [Nat.add_assoc, ← h6]
      unfold Addr.add
      split
      · rename_i h7; rw [h7]; rfl
      · rfl
    · have hk := (List.getElem?_eq_some_iff.1 hy).1
      exact List.mem_map.2 ⟨i, List.mem_range.2 (by omega), rfl⟩
end
section
variable {H : Type} {enc : TypeId × Value → H} {w : World} {base : Nat} {sp : Nat → Bool} {held : Bool}
set_option maxRecDepth 100000 in
theorem rd_node : ∀ n cs (d : DataW H × List MemPlace), DataW.trod enc Tryz.prog w base sp held n 38 cs = some d → ∃ y : Nd, cs = ndc y ∧ True := by
  intro fuel l d hf
  obtain ⟨xs, n, -, -, hl, hx, hg⟩ := DataW.trod_struct Tryz.underlying38 hf
  rw [show Tryz.prog.cellsOf 38 = 6 by kernel_rfl] at hl
  have c3 : Tryz.prog.cellsOf 3 = 1 := by kernel_rfl
  have c9 : Tryz.prog.cellsOf 9 = 1 := by kernel_rfl
  have c4 : Tryz.prog.cellsOf 4 = 1 := by kernel_rfl
  have at' : ∀ i, (h : i < xs.length) → xs[i]? = some (xs[i]'h) := fun i h => List.getElem?_eq_getElem h
  have hx6 : xs.length = 6 := hx
  match l, hl with
  | [v0, v1, v2, v3, v4, v5], _ =>
    have g0 := (hg 0 _ rfl).trans (at' 0 (by omega))
    have g1 := (hg 1 _ rfl).trans (at' 1 (by omega))
    have g2 := (hg 2 _ rfl).trans (at' 2 (by omega))
    have g3 := (hg 3 _ rfl).trans (at' 3 (by omega))
    have g4 := (hg 4 _ rfl).trans (at' 4 (by omega))
    have g5 := (hg 5 _ rfl).trans (at' 5 (by omega))
    simp only [List.getElem_toArray, List.getElem_cons_zero, List.getElem_cons_succ, c3, c9, c4] at g0 g1 g2 g3 g4 g5
    obtain ⟨k, e0, -, -⟩ := DataW.trod_int Tryz.underlying3 g0
    obtain ⟨m, e1, -, -⟩ := DataW.trod_int Tryz.underlying3 g1
    obtain ⟨nm, e2, -, hnm⟩ := DataW.trod_string Tryz.underlying9 g2
    obtain ⟨s, e3, -, hs⟩ := DataW.trod_string Tryz.underlying9 g3
    obtain ⟨b, e4, -⟩ := DataW.trod_bool Tryz.underlying4 g4
    obtain ⟨x, e5, -, hxw⟩ := DataW.trod_int Tryz.underlying3 g5
    simp at e0 e1 e2 e3 e4 e5
    subst e0 e1 e2 e3 e4 e5
    exact ⟨⟨k, m, nm.data.toList, s.data.toList, b, x⟩, rfl, trivial⟩
theorem cells_node : Tryz.prog.cellsOf 38 = 6 := by kernel_rfl
set_option maxRecDepth 100000 in
/-- A row of nodes. -/
theorem open_val {r : Reach} {b0 : Nat} {v : Value} {d : DataW H} {ps : List MemPlace} (hv : Value.okWide Tryz.prog w r b0 24 v) (h : DataW.Trod enc Tryz.prog w base sp held 24 v d ps) :
    ∃ l : List Nd, Nds w v l := by
  obtain ⟨a, len, cap, rfl⟩ := okWide_slice Tryz.underlying24 hv
  obtain ⟨fuel, hf⟩ := h
  obtain ⟨l, h1, -⟩ := open_rows (Q := fun _ _ => True) Tryz.underlying24 cells_node (by decide) ndc_len (fun n cs d h => rd_node n cs d h) hf
  exact ⟨l, h1⟩
end
end Go.Proofs.YtbgciajfjllciaaGreatDoor

/-
  The statement TextBack holds: called with any value and any text, whatever lies in memory, it returns true, and each argument reads as it read before. Conditions: the listed variables of the library (two tables of bits, one of powers of ten, two of UTF-8, strconv's two errors) and the program's table of words read as the program's text lays them (the tie is given).
-/
namespace Go.Proofs.YtbgciajfjllciaaGreatDoor
open Go.ChangeShapes Go.WideShapes Go.ChangeAt Go.RowKit Go.ChangeMaps

set_option maxRecDepth 100000 in
theorem textBack_lifted (os : Os) (started : os.Started) (H : Type) (enc : TypeId × Value → H) :
    ReturnsInHanded {} Tryz.checked os 5 .any (fun w args => (Rows.textBackSpec.pre enc Tryz.prog Tryz.f5 [] false w args ∧ laidMetH Tryz.prog seatLaid w) ∧ sizedMet enc Tryz.prog Tryz.f5 (OpenSpec.ofChange Rows.textBackSpec) false w args)
      (Rows.textBackSpec.post enc Tryz.prog Tryz.f5 false true false false) := by
  refine returnsInHanded_of_change_and (C := Tryz.checked) (X := fun w _ => laidMetH Tryz.prog seatLaid w) (fun _ _ _ hh h => h.of_heap hh) ownKn started (by kernel_rfl) Tryz.func5
    (ChangeSpec.witness_shaped (enc := enc) (C := Tryz.checked) (os := os) (X := fun w _ => laidMetH Tryz.prog seatLaid w) false (World.laidAll Tryz.prog os seatLaid)
      #[.slice none 0 0, .string ⟨#[]⟩] 8 (World.laidAll_os _ _ _)
      (World.shaped_of_ZipB (by kernel_rfl) (by kernel_rfl)) (by kernel_rfl) (by kernel_rfl) (by kernel_rfl) (laid_met os _)) ?_
  intro W base args ds gs before hval0 hW _ hwt0 hL _
  have hval : ∀ (j : Nat) t v, Tryz.f5.params[j]? = some t → args[j]? = some v → Value.okWide Tryz.prog W .any base t v := hval0
  have hW' := hW
  obtain ⟨p, q, hA0, hV, rfl, _, _⟩ := hW
  have hA : DataW.TrodAll enc Tryz.prog W 0 (fun _ => true) true Tryz.f5.params.toList args.toList ds p := hA0
  have hwt : (DataW.weightsEach Tryz.prog (Tryz.f5.params.toList ++ Rows.textBackSpec.plain.varTypes Tryz.prog) (ds ++ gs)).all (· ≤ reachBytes) = true := hwt0
  rw [Tryz.params5] at hA hval
  obtain ⟨v0, v1, d0, d1, p0, p1, rfl, rfl, rfl, h0, h1⟩ := trodAll_two hA
  obtain ⟨rfl, rfl⟩ := trodVars_none hV
  obtain ⟨l0, hv0⟩ := open_val (base := 0) (sp := fun _ => true) (held := true) (hval 0 _ v0 rfl rfl) h0
  obtain ⟨t1, rfl, -, -, ht1⟩ := open_string Tryz.underlying9 (hval 1 _ v1 rfl rfl) h1
  refine (textBack_any v0 l0 t1 W hv0 (tv_of_laid hL)).mono fun e W' ⟨he, hb⟩ => ?_
  subst he
  exact ⟨_, rfl, law_post (tb := 4) laidOut hW' rfl Tryz.underlying4 (by kernel_rfl) rfl (by
    rw [Tryz.params5]
    intro t ht
    have hall : ([24, 9].all fun t => Tryz.prog.readableRec t && decide (t < Tryz.prog.types.size)) = true := by kernel_rfl
    obtain ⟨h1, h2⟩ := Bool.and_eq_true_iff.1 (List.all_eq_true.1 hall t ht)
    exact ⟨h1, of_decide_eq_true h2⟩) hb⟩

theorem textBack_holds : Rows.TextBackSaid :=
  OpenClaim.holds_of_wide 5 Tryz.f5 rfl rfl rfl rfl rfl rfl rfl ⟨rfl, rfl, rfl, rfl, rfl⟩ rfl rfl rfl rfl rfl (by kernel_rfl) Tryz.func5 (by kernel_rfl)
    (of_decide_eq_true (by kernel_rfl)) (by unfold Func.isWrapper; first | (rw [if_pos (by decide +kernel)]; kernel_rfl) | (rw [if_neg (by decide +kernel)]; exact ⟨rfl, rfl⟩))
    (fun os started H enc _ => textBack_lifted os started H enc)

theorem textBack_card : Rows.TextBackCardSaid :=
  Claim7.holds_tied_plain_at .later [] Rows.textBackCard.laidKinds true Rows.textBackCard.stood.harness Rows.textBackCard.stood.looks
    textBack_holds (fun _ h => by cases h) (by kernel_rfl) (fun _ h => by cases h) textBack_row_tie rfl ⟨rfl, rfl⟩ (by kernel_rfl) rfl
    (fun f fn hf hfn => by
      obtain rfl : f = 5 := Option.some.inj ((show Tryz.prog.funcNamed "loupe/loupelaw04.TextBack" = some 5 by kernel_rfl).symm.trans hf) |>.symm
      obtain rfl : fn = Tryz.f5 := (Option.some.inj (Tryz.func5.symm.trans hfn)).symm
      exact ⟨by kernel_rfl, fun j t ht => by
        rw [Tryz.params5] at ht
        have hm : t ∈ [24, 9] := by simpa using Array.mem_of_getElem? ht
        have hall : ([24, 9].all fun u => !Tryz.prog.wantsStandIn u) = true := by kernel_rfl
        exact (show Tryz.prog.wantsStandIn t = false by simpa using List.all_eq_true.1 hall t hm)⟩)
    (by kernel_rfl)
#print axioms textBack_card
end Go.Proofs.YtbgciajfjllciaaGreatDoor
