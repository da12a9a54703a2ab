/-
  Joined: TxW.
-/
import Derived.Test.YtafbojiojeemoaaGreatDoorTextCutJ11
import Derived.Test.YtafbojiojeemoaaGreatDoorTextCutJ14

/-
  Plain words: what is read is a right value, not too deep; how long its texts are. No program stands here.
-/
namespace Go.Proofs.YtafbojiojeemoaaGreatDoor
namespace Tp
open Go.RowKit Np Rw Vp Up Qp

/-- What a node's strings are written as. -/
def wN (n : Nd) : Nat := (wrs n.name).length + (if n.kind = 4 then (wrs n.s).length else 0)
def wS (l : List Nd) : Nat := (l.map wN).sum
theorem wS_nil : wS [] = 0 := rfl
theorem wS_cons (n : Nd) (l : List Nd) : wS (n :: l) = wN n + wS l := by simp [wS]
theorem wS_append (a b : List Nd) : wS (a ++ b) = wS a + wS b := by simp [wS]
theorem wN_hd (k : Int) (m : Nat) (hk : k ≠ 4) : wN (hdN k m) = 0 := by simp [wN, hdN, wrs, hk]
theorem wS_set (nm : List UInt8) (l : List Nd) : wS (setNm nm l) ≤ (wrs nm).length + wS l := by
  cases l with
  | nil => simp [setNm, wS]
  | cons n l =>
    rw [setNm, wS_cons, wS_cons]
    simp only [wN]
    omega
theorem wS_laid : ∀ ps : List Pr, wS (laid ps) ≤ (ps.map fun p => (wrs p.1).length + wS p.2).sum
  | [] => by simp [laid, wS]
  | p :: ps => by
    have h1 := wS_laid ps
    have h2 := wS_set p.1 p.2
    rw [laid_cons, wS_append, List.map_cons, List.sum_cons]
    omega
/-- A right value, so deep at most. -/
def Gt (n : Nat) (v : List Nd) : Prop := ∃ t, Val t ∧ v = flat t ∧ depth t ≤ n
theorem gt_leaf {n : Nat} {x : Nd} (hp : plainN x = true) (hm : x.many = 0) (hn : x.name = []) (h5 : x.kind ≠ 5) (h6 : x.kind ≠ 6) : Gt n [x] := by
  refine ⟨.mk x [], ⟨okT_mk.2 ⟨by simp [many, hm], okTs_nil⟩, ?_, hn⟩, by rw [flat_mk]; rfl, ?_⟩
  · rw [rightT_mk, hp]; simp [rightKs]
  · rw [depth_mk, if_neg]; exact Nat.zero_le _
    simp [cont, h5, h6]
theorem depth_of_flat {t u : Tr Nd} (ht : Val t) (hu : Val u) (h : flat t = flat u) : depth t = depth u := by
  rw [← deepG_val ht, ← deepG_val hu, h]
theorem depth_nm (nm : List UInt8) (t : Tr Nd) : depth (nmd nm t) = depth t := by rw [nmd, depth_mk, depth_eq]; rfl
theorem depths_all {n : Nat} : ∀ {ts : List (Tr Nd)}, (∀ t ∈ ts, depth t ≤ n) → depths ts ≤ n
  | [], _ => by simp
  | t :: ts, h => by
    rw [depths_cons]
    exact Nat.max_le.2 ⟨h t (by simp), depths_all fun u hu => h u (by simp [hu])⟩
theorem trees_of {n : Nat} : ∀ {L : List (List Nd)}, (∀ l ∈ L, Gt n l) → ∃ ts : List (Tr Nd), (∀ t ∈ ts, Val t ∧ depth t ≤ n) ∧ L = ts.map flat
  | [], _ => ⟨[], by simp, rfl⟩
  | l :: L, h => by
    obtain ⟨ts, h1, h2⟩ := trees_of fun x hx => h x (List.mem_cons_of_mem _ hx)
    obtain ⟨t, h3, h4, h5⟩ := h l (by simp)
    refine ⟨t :: ts, ?_, by rw [List.map_cons, h4, h2]⟩
    intro u hu
    rcases List.mem_cons.1 hu with rfl | hu
    · exact ⟨h3, h5⟩
    · exact h1 u hu
theorem laid_flats : ∀ {ts : List (Tr Nd)}, (∀ t ∈ ts, Val t) → laid ((ts.map flat).map fun l => (([] : List UInt8), l)) = flats ts
  | [], _ => rfl
  | t :: ts, h => by
    rw [List.map_cons, List.map_cons, laid_cons, flats_cons, laid_flats fun u hu => h u (by simp [hu])]
    congr 1
    show setNm [] (flat t) = flat t
    rw [← flat_nmd]
    conv => rhs; rw [← nmd_self t, (h t (by simp)).nm]
theorem gt_list {n : Nat} {L : List (List Nd)} (h : ∀ l ∈ L, Gt n l) : Gt (n + 1) (liV L) := by
  obtain ⟨ts, h1, rfl⟩ := trees_of h
  refine ⟨arrT ts, val_arrT fun t ht => (h1 t ht).1, ?_, ?_⟩
  · rw [flat_arrT, liV, List.length_map, laid_flats fun t ht => (h1 t ht).1]
  · rw [arrT, depth_mk, if_pos (by simp [cont, hdN])]
    have := depths_all (n := n) fun t ht => (h1 t ht).2
    omega
theorem gt_obj {n : Nat} {ps : List Pr} (hb : objB (ps.map (·.1)) (ps.map (·.2)) = true) (h : ∀ p ∈ ps, Gt n p.2) : Gt (n + 1) (obV ps) := by
  have hr : ∀ l ∈ ps.map (·.2), rightL l = true := by
    intro l hl
    obtain ⟨p, hp, rfl⟩ := List.mem_map.1 hl
    obtain ⟨t, h1, h2, -⟩ := h p hp
    rw [h2]; exact rightL_val h1
  obtain ⟨us, h1, h2, h3, h4, h5⟩ := objV_tree hb hr
  refine ⟨objT us, h1, h2.symm, ?_⟩
  rw [objT, depth_mk, if_pos (by simp [cont, hdN])]
  have h6 : depths us ≤ n := depths_all fun u hu => by
    have h7 : flat (nmd [] u) ∈ us.map (fun u => flat (nmd [] u)) := List.mem_map_of_mem (f := fun u : Tr Nd => flat (nmd [] u)) hu
    rw [h5] at h7
    obtain ⟨p, hp, he⟩ := List.mem_map.1 h7
    have h8 := (srt_perm_self _).mem_iff.1 hp
    have h9 := (List.of_mem_zip (a := p.1) (b := p.2) h8).2
    obtain ⟨q, hq, hq2⟩ := List.mem_map.1 h9
    obtain ⟨t, ht, hf, hd⟩ := h q hq
    have hp2 := h1.parts u (by exact hu)
    rw [← depth_nm [] u, depth_of_flat (Val.clr hp2.1 hp2.2) ht (by rw [← hf, hq2]; exact he.symm)]
    exact hd
  omega
theorem wS_list (L : List (List Nd)) : wS (liV L) ≤ (L.map wS).sum := by
  have h := wS_laid (L.map fun l => (([] : List UInt8), l))
  rw [liV, wS_cons, wN_hd _ _ (by decide)]
  rw [List.map_map] at h
  have e : ((fun p : Pr => (wrs p.1).length + wS p.2) ∘ fun l => (([] : List UInt8), l)) = wS := by funext l; simp [wrs]
  rw [e] at h
  omega
theorem wS_obj {ps : List Pr} (hb : objB (ps.map (·.1)) (ps.map (·.2)) = true) : wS (obV ps) ≤ (ps.map fun p => (wrs p.1).length + wS p.2).sum := by
  have hz : (ps.map (·.1)).zip (ps.map (·.2)) = ps := by rw [List.zip_map']; simp
  rw [obV, objV, if_pos hb, wS_cons, wN_hd _ _ (by decide), hz]
  have h := wS_laid (srt ps)
  rw [((srt_perm_self ps).map fun p : Pr => (wrs p.1).length + wS p.2).sum_nat] at h
  omega
/-- One part for another of its name. -/
theorem sum_putP (f : Pr → Nat) (p : Pr) : ∀ acc : List Pr, (acc.map (·.1)).Nodup → ((acc.map fun q => if q.1 = p.1 then p else q).map f).sum ≤ (acc.map f).sum + f p
  | [], _ => by simp
  | q :: acc, h => by
    rw [List.map_cons, List.nodup_cons] at h
    have ih := sum_putP f p acc h.2
    simp only [List.map_cons, List.sum_cons]
    by_cases e : q.1 = p.1
    · rw [if_pos e]
      have hk : (acc.map fun q => if q.1 = p.1 then p else q) = acc := by
        conv => rhs; rw [← List.map_id acc]
        refine List.map_congr_left fun r hr => ?_
        rw [if_neg]; rfl
        intro hr2
        exact h.1 (List.mem_map.2 ⟨r, hr, by rw [hr2, e]⟩)
      rw [hk]; omega
    · rw [if_neg e]; omega
theorem putP_sum (f : Pr → Nat) (p : Pr) (acc : List Pr) (h : (acc.map (·.1)).Nodup) : ((putP acc p).map f).sum ≤ (acc.map f).sum + f p := by
  unfold putP
  split
  · exact sum_putP f p acc h
  · rw [List.map_append, List.sum_append]; simp
theorem putP_mem {acc : List Pr} {p q : Pr} (h : q ∈ putP acc p) : q ∈ acc ∨ q = p := by
  unfold putP at h
  split at h
  · obtain ⟨r, hr, h⟩ := List.mem_map.1 h
    split at h
    · exact .inr h.symm
    · exact .inl (h ▸ hr)
  · simpa using h
/-- A reading gives right values, no longer than the text. -/
def Good (n : Nat) (rd : Nat → Rs (List Nd)) : Prop := ∀ i v k, rd i = .ok v k → Gt n v ∧ wS v + i ≤ k
theorem stR_wrs {S : List UInt8} {i k : Nat} {v : List UInt8} (h : stR S i = .ok v k) : (wrs v).length + 2 + i ≤ k := by
  unfold stR at h
  rcases unqs_shape (S.drop i) with ⟨h1, h2, h3, h4, h5, -, h6⟩ | ⟨-, h2, -⟩
  · rw [if_pos h1] at h
    injection h with h7 h8
    subst h7 h8
    omega
  · rw [if_neg (by omega)] at h; cases h
theorem nuR_good {S : List UInt8} {n i k : Nat} {v : List Nd} (h : nuR S i = .ok v k) : Gt n v ∧ wS v + i ≤ k := by
  unfold nuR at h
  split at h
  · rename_i h0
    injection h with e1 e2
    subst e1 e2
    have hr : right (readF (nuT S i)).1 = true := by
      rcases read_cases (nuT S i) with h1 | h1
      · exact h1.2
      · rcases h1.2 with h2 | h2 <;> rw [h0] at h2 <;> cases h2
    obtain ⟨r1, r2, r3, -⟩ := (right_iff _).1 hr
    refine ⟨gt_leaf ?_ r2 r3 (by rw [r1]; decide) (by rw [r1]; decide), ?_⟩
    · unfold plainN
      rw [r1, if_neg (by decide), if_pos rfl]
      generalize (readF (nuT S i)).1 = x at *
      obtain ⟨a, b, c, d, e, f⟩ := x
      simp only at r1 r3
      subst r1 r3
      exact hr
    · rw [wS_cons, wS_nil, wN, r1, r3, if_neg (by decide)]
      simp [wrs]
  · cases h
theorem woR_good {S : List UInt8} {n i k : Nat} {v : List Nd} (h : woR S i = .ok v k) : Gt n v ∧ wS v + i ≤ k := by
  have hw : ∀ c : Int, c = 0 ∨ c = 1 ∨ c = 2 → Gt n [hdN c 0] ∧ wS [hdN c 0] = 0 := by
    intro c hc
    refine ⟨gt_leaf ?_ rfl rfl (by simp only [hdN]; omega) (by simp only [hdN]; omega), by rw [wS_cons, wS_nil, wN_hd _ _ (by omega)]⟩
    unfold plainN
    rw [if_pos (by simpa [hdN] using hc)]
    simp [hdN]
  unfold woR at h
  split at h
  · injection h with e1 e2; subst e1 e2; have := hw 0 (by decide); exact ⟨this.1, by rw [this.2]; omega⟩
  · split at h
    · injection h with e1 e2; subst e1 e2; have := hw 1 (by decide); exact ⟨this.1, by rw [this.2]; omega⟩
    · split at h
      · injection h with e1 e2; subst e1 e2; have := hw 2 (by decide); exact ⟨this.1, by rw [this.2]; omega⟩
      · cases h
theorem vl1_good {S : List UInt8} {arr obj : Nat → Rs (List Nd)} {n i : Nat}
    (ha : bt S i = 91 → ∀ v k, arr i = .ok v k → Gt n v ∧ wS v + i ≤ k) (ho : bt S i = 123 → ∀ v k, obj i = .ok v k → Gt n v ∧ wS v + i ≤ k)
    {v : List Nd} {k : Nat} (h : vl1 S arr obj i = .ok v k) : Gt n v ∧ wS v + i ≤ k := by
  unfold vl1 at h
  split at h
  · rename_i hb; exact ha hb v k h
  · split at h
    · rename_i hb; exact ho hb v k h
    · split at h
      · obtain ⟨a, h1, rfl⟩ := mapR_ok h
        obtain ⟨h2, h3, h4, -⟩ := stR_ok h1
        have h5 := stR_wrs h1
        refine ⟨gt_leaf ?_ rfl rfl (by simp) (by simp), ?_⟩
        · simp [plainN, vld, h4]
        · rw [strV, wS_cons, wS_nil, wN]; simp [wrs] at h5 ⊢; omega
      · split at h
        · exact nuR_good h
        · exact woR_good h
theorem li_good {S : List UInt8} {n : Nat} {rd : Nat → Rs (List Nd)} (hg : Goes S rd) (hrd : Good n rd) {j : Nat} (hj : j < S.length) {v : List Nd} {k : Nat} (h : mapR liV (ptR rd Tp.snoc [] S 93 j) = .ok v k) : Gt (n + 1) v ∧ wS v + j ≤ k := by
  obtain ⟨a, h1, rfl⟩ := mapR_ok h
  obtain ⟨h2, h3, h4, h5⟩ := ptR_inv (by decide) (fun i acc => (∀ l ∈ acc, Gt n l) ∧ (acc.map wS).sum + j < i) (fun i acc v k _ hp hr => by
    obtain ⟨g1, g2, -⟩ := hg i v k hr
    obtain ⟨g3, g4⟩ := hrd i v k hr
    refine ⟨g1, g2, fun k' hk' => ⟨?_, ?_⟩⟩
    · intro l hl
      rw [Tp.snoc, List.mem_append, List.mem_singleton] at hl
      rcases hl with hl | rfl
      · exact hp.1 l hl
      · exact g3
    · have := hp.2
      rw [Tp.snoc, List.map_append, List.sum_append]
      simp only [List.map_cons, List.map_nil, List.sum_cons, List.sum_nil]
      omega) hj (fun k hk => ⟨by simp, by simpa using hk⟩) h1
  have := wS_list a
  exact ⟨gt_list h4, by omega⟩
theorem fd_good {S : List UInt8} {n : Nat} {rd : Nat → Rs (List Nd)} (hrd : Good n rd) {i k : Nat} {p : Pr} (h : fdR rd S i = .ok p k) : Gt n p.2 ∧ (wrs p.1).length + wS p.2 + i ≤ k := by
  unfold fdR at h
  cases hs : stR S (sk S i) with
  | bad e q => rw [hs] at h; cases h
  | ok nm k1 =>
    rw [hs] at h
    simp only at h
    have h1 := stR_wrs hs
    split at h
    · cases hr : rd (sk S k1 + 1) with
      | bad e q => rw [hr] at h; cases h
      | ok v k2 =>
        rw [hr] at h
        injection h with e1 e2
        subst e1 e2
        obtain ⟨g1, g2⟩ := hrd _ _ _ hr
        have := sk_ge S i
        have := sk_ge S k1
        exact ⟨g1, by simp only; omega⟩
    · cases h
theorem ob_good {S : List UInt8} {n : Nat} {rd : Nat → Rs (List Nd)} (hg : Goes S rd) (hrd : Good n rd) {j : Nat} (hj : j < S.length) {v : List Nd} {k : Nat} (h : mapR obV (ptR (fdR rd S) putP [] S 125 j) = .ok v k) : Gt (n + 1) v ∧ wS v + j ≤ k := by
  obtain ⟨a, h1, rfl⟩ := mapR_ok h
  obtain ⟨h2, h3, h4, h5, h6⟩ := ptR_inv (by decide) (fun i acc => FdP j i acc ∧ (∀ p ∈ acc, Gt n p.2) ∧ (acc.map fun p : Pr => (wrs p.1).length + wS p.2).sum + j < i) (fun i acc p k hi hp hr => by
    obtain ⟨f1, f2, f3⟩ := fdP_step hg j i acc p k hi hp.1 hr
    obtain ⟨g1, g2⟩ := fd_good hrd hr
    refine ⟨f1, f2, fun k' hk' => ⟨f3 k' hk', ?_, ?_⟩⟩
    · intro q hq
      rcases putP_mem hq with hq | rfl
      · exact hp.2.1 q hq
      · exact g1
    · have := putP_sum (fun p : Pr => (wrs p.1).length + wS p.2) p acc hp.1.2.2.1
      have := hp.2.2
      omega) hj (fun k hk => ⟨FdP.zero hk, by simp, by simpa using hk⟩) h1
  have := wS_obj h4.objB
  exact ⟨gt_obj h4.objB h5, by omega⟩
theorem vlR_good (S : List UInt8) : ∀ n, Good n (vlR S n)
  | 0 => fun i v k h => by
    rw [vlR_zero] at h
    have h1 := sk_ge S i
    have h2 := vl1_good (n := 0) (fun _ v k h => by cases h) (fun _ v k h => by cases h) h
    exact ⟨h2.1, by omega⟩
  | n + 1 => fun i v k h => by
    rw [vlR_succ] at h
    have h1 := sk_ge S i
    have h2 := vl1_good (n := n + 1) (fun hb v k h => li_good (vlR_goes S n) (vlR_good S n) (bt_lt (by omega)) h) (fun hb v k h => ob_good (vlR_goes S n) (vlR_good S n) (bt_lt (by omega)) h) h
    exact ⟨h2.1, by omega⟩
/-- An error has a number, and a place in the text. -/
def Er3 (S : List UInt8) (e : Int) (p : Nat) : Prop := (e = 1 ∨ e = 2 ∨ e = 3) ∧ p ≤ S.length
theorem mapR_bad {α β : Type} {f : α → β} {R : Rs α} {e : Int} {p : Nat} (h : mapR f R = .bad e p) : R = .bad e p := by
  cases R with
  | ok a k => cases h
  | bad e' p' => injection h with e1 e2; subst e1 e2; rfl
theorem nuR_err {S : List UInt8} {i p : Nat} {e : Int} (hi : i ≤ S.length) (h : nuR S i = .bad e p) : Er3 S e p := by
  unfold nuR at h
  split at h
  · cases h
  · rename_i h0
    injection h with e1 e2
    subst e1 e2
    have h1 := readF_at (nuT S i)
    have h2 := nuT_len S i hi
    refine ⟨?_, by omega⟩
    rcases read_cases (nuT S i) with h3 | h3
    · exact absurd h3.1 h0
    · rcases h3.2 with h4 | h4
      · exact .inl h4
      · exact .inr (.inl h4)
theorem woR_err {S : List UInt8} {i p : Nat} {e : Int} (hi : i ≤ S.length) (h : woR S i = .bad e p) : Er3 S e p := by
  unfold woR at h
  split at h
  · cases h
  · split at h
    · cases h
    · split at h
      · cases h
      · injection h with e1 e2; subst e1 e2; exact ⟨.inl rfl, hi⟩
theorem vl1_err {S : List UInt8} {arr obj : Nat → Rs (List Nd)} {i : Nat} (hi : i ≤ S.length)
    (ha : bt S i = 91 → ∀ e p, arr i = .bad e p → Er3 S e p) (ho : bt S i = 123 → ∀ e p, obj i = .bad e p → Er3 S e p)
    {e : Int} {p : Nat} (h : vl1 S arr obj i = .bad e p) : Er3 S e p := by
  unfold vl1 at h
  split at h
  · rename_i hb; exact ha hb e p h
  · split at h
    · rename_i hb; exact ho hb e p h
    · split at h
      · have := stR_bad (mapR_bad h) hi
        exact ⟨.inl this.1, this.2⟩
      · split at h
        · exact nuR_err hi h
        · exact woR_err hi h
theorem ptR_err {α β : Type} {rd : Nat → Rs α} {put : β → α → β} {S : List UInt8} {c : Nat} {zero : β} {j : Nat} (hj : j < S.length)
    (hE : ∀ i e q, i ≤ S.length → rd i = .bad e q → Er3 S e q) (hG : ∀ i v k, i ≤ S.length → rd i = .ok v k → i < k ∧ k ≤ S.length) {e : Int} {p : Nat} (h : ptR rd put zero S c j = .bad e p) : Er3 S e p := by
  unfold ptR at h
  have h5 := sk_le (S := S) (i := j + 1) (by omega)
  split at h
  · cases h
  · rcases lpR_err (fun e q ⟨i, hi, hr⟩ => (hE i e q hi hr).2) hG (S.length + 1) _ _ e p h5 (by omega) h with h1 | ⟨i, hi, hr⟩
    · exact ⟨.inl h1.1, h1.2⟩
    · exact hE i e p hi hr
theorem fdR_err {S : List UInt8} {rd : Nat → Rs (List Nd)} (hE : ∀ i e q, i ≤ S.length → rd i = .bad e q → Er3 S e q) {i : Nat} (hi : i ≤ S.length) {e : Int} {p : Nat} (h : fdR rd S i = .bad e p) : Er3 S e p := by
  unfold fdR at h
  have h1 := sk_le hi
  cases hs : stR S (sk S i) with
  | bad e' q =>
    rw [hs] at h
    injection h with e1 e2
    subst e1 e2
    have := stR_bad hs h1
    exact ⟨.inl this.1, this.2⟩
  | ok nm k1 =>
    rw [hs] at h
    simp only at h
    obtain ⟨g1, g2, -⟩ := stR_ok hs
    have h2 := sk_le g2
    split at h
    · rename_i hb
      have h3 := bt_lt (S := S) (k := sk S k1) (by omega)
      cases hr : rd (sk S k1 + 1) with
      | ok v k2 => rw [hr] at h; cases h
      | bad e' q =>
        rw [hr] at h
        injection h with e1 e2
        subst e1 e2
        exact hE _ _ _ (by omega) hr
    · injection h with e1 e2
      subst e1 e2
      exact ⟨.inl rfl, h2⟩
theorem vlR_err (S : List UInt8) : ∀ n i e p, i ≤ S.length → vlR S n i = .bad e p → Er3 S e p
  | 0, i, e, p, hi, h => by
    rw [vlR_zero] at h
    have h1 := sk_le hi
    exact vl1_err h1 (fun _ e p h => by injection h with e1 e2; subst e1 e2; exact ⟨.inr (.inr rfl), h1⟩) (fun _ e p h => by injection h with e1 e2; subst e1 e2; exact ⟨.inr (.inr rfl), h1⟩) h
  | n + 1, i, e, p, hi, h => by
    rw [vlR_succ] at h
    have h1 := sk_le hi
    have ih := vlR_err S n
    have hg := vlR_goes S n
    refine vl1_err h1 (fun hb e p h => ptR_err (bt_lt (by omega)) ih (fun i v k _ hr => ⟨(hg i v k hr).1, (hg i v k hr).2.1⟩) (mapR_bad h)) (fun hb e p h => ptR_err (bt_lt (by omega)) (fun i e q hi hr => fdR_err ih hi hr) (fun i v k _ hr => ?_) (mapR_bad h)) h
    have := fdR_ok hg hr
    exact ⟨by omega, this.2.1⟩
/-- What D1 says of a text: a right value, or an error at a place in it. -/
theorem prsR_cases (S : List UInt8) : (Gt 128 (prsR S).1 ∧ wS (prsR S).1 ≤ S.length ∧ 2 * (prsR S).1.length ≤ S.length + 1 ∧ (prsR S).2.1 = 0 ∧ (prsR S).2.2 = 0) ∨ ((prsR S).1 = [] ∧ Er3 S (prsR S).2.2 (prsR S).2.1) := by
  unfold prsR
  cases hr : vlR S 128 0 with
  | bad e p => exact .inr ⟨rfl, vlR_err S 128 0 e p (Nat.zero_le _) hr⟩
  | ok x k =>
    obtain ⟨g1, g2⟩ := vlR_good S 128 0 x k hr
    obtain ⟨g3, g4, g5, g6⟩ := vlR_goes S 128 0 x k hr
    simp only
    split
    · exact .inr ⟨rfl, .inl rfl, sk_le g4⟩
    · exact .inl ⟨g1, by simp only; omega, by simp only; omega, rfl, rfl⟩

/-! ### how long a text is -/
theorem wordT_len (k : Int) : (wordT k).length ≤ 5 := by unfold wordT; split <;> (try split) <;> decide
theorem prN_len (ln : Bool) (nm : List UInt8) : (prN ln nm).length ≤ (wrs nm).length + 4 := by
  unfold prN
  rw [List.length_append, quo_len, List.length_cons]
  split <;> simp
theorem scT_len {n : Nd} (hp : plainN n = true) (h5 : n.kind ≠ 5) (h6 : n.kind ≠ 6) : (scT n).length + (wrs n.name).length ≤ wN n + 160 := by
  unfold scT wN
  split
  · have := wordT_len n.kind; omega
  · rename_i h0
    split
    · rename_i h3
      have hr : right { n with name := [] } = true := by unfold plainN at hp; rw [if_neg h0, if_pos h3] at hp; exact hp
      obtain ⟨b1, b2, b3⟩ := right_bounds hr
      have := print_short n.s n.neg n.e (by simp only at b2; omega) (by simp only at b3; omega)
      simp only at b1
      omega
    · rename_i h3
      have h4 : n.kind = 4 := by
        unfold plainN at hp
        rw [if_neg h0, if_neg h3] at hp
        split at hp
        · assumption
        · split at hp
          · omega
          · cases hp
      rw [if_pos h4, quo_len]; omega
/-- The sum of what the parts are written as. -/
def szK (ln : Bool) (d E : Nat) (ks : List (Tr Nd)) : Nat := (ks.map fun u => (prT ln d u).length + (wrs u.nd.name).length + (E + 5)).sum
theorem prK_len (ln : Bool) (ob : Bool) (d E : Nat) (hd0 : (prL ln d).length ≤ E) (hd : (prL ln (d + 1)).length ≤ E) : ∀ ks : List (Tr Nd), (prK ln d ob ks).length ≤ szK ln (d + 1) E ks + E
  | [] => by rw [prK_nil]; simp only [szK, List.map_nil, List.sum_nil]; omega
  | u :: ks => by
    have h1 := prK_len ln ob d E hd0 hd ks
    have h3 : (if ob = true then prN ln u.nd.name else []).length ≤ (wrs u.nd.name).length + 4 := by
      split
      · exact prN_len ln _
      · simp
    rw [prK_cons, List.length_cons, List.length_append, List.length_append, List.length_append]
    simp only [szK, List.map_cons, List.sum_cons] at h1 ⊢
    omega
theorem prB_len (ln : Bool) (ob : Bool) (d E : Nat) (hd0 : (prL ln d).length ≤ E) (hd : (prL ln (d + 1)).length ≤ E) (ks : List (Tr Nd)) : (prB ln d ob ks).length ≤ szK ln (d + 1) E ks + E := by
  cases ks with
  | nil => rw [prB_nil]; simp
  | cons u ks =>
    have h1 := prK_len ln ob d E hd0 hd ks
    have h3 : (if ob = true then prN ln u.nd.name else []).length ≤ (wrs u.nd.name).length + 4 := by
      split
      · exact prN_len ln _
      · simp
    rw [prB_cons, List.length_append, List.length_append, List.length_append]
    simp only [szK, List.map_cons, List.sum_cons] at h1 ⊢
    omega
theorem wS_flats : ∀ ks : List (Tr Nd), wS (flats ks) = (ks.map fun u => wS (flat u)).sum
  | [] => rfl
  | u :: ks => by rw [flats_cons, wS_append, wS_flats ks]; simp
theorem len_flats : ∀ ks : List (Tr Nd), (flats ks).length = (ks.map fun u => (flat u).length).sum
  | [] => rfl
  | u :: ks => by rw [flats_cons, List.length_append, len_flats ks]; simp
theorem szK_le (ln : Bool) (d E : Nat) (c : Nat) : ∀ ks : List (Tr Nd), (∀ u ∈ ks, (prT ln d u).length + (wrs u.nd.name).length + (E + 5) ≤ wS (flat u) + c * (flat u).length) → szK ln d E ks ≤ wS (flats ks) + c * (flats ks).length
  | [], _ => by simp [szK]
  | u :: ks, h => by
    have h1 := szK_le ln d E c ks fun x hx => h x (List.mem_cons_of_mem _ hx)
    have h2 := h u (by simp)
    rw [flats_cons, wS_append, List.length_append, Nat.mul_add]
    simp only [szK, List.map_cons, List.sum_cons] at h1 ⊢
    omega
theorem prT_len (ln : Bool) (D E : Nat) (hE : ∀ d, d ≤ D → (prL ln d).length ≤ E) : ∀ (N : Nat) (t : Tr Nd) (d : Nat), (flat t).length ≤ N → okT many t → rightT t = true → d + depth t ≤ D →
    (prT ln d t).length + (wrs t.nd.name).length + (E + 5) ≤ wS (flat t) + (2 * E + 165) * (flat t).length
  | 0, t, _, hN, _, _, _ => by have := flat_pos t; omega
  | N + 1, .mk n ks, d, hN, h1, h2, hd => by
    have hk := kids_okP h1 h2
    have hpl : plainN n = true := by rw [rightT_mk, Bool.and_eq_true] at h2; exact h2.1
    rw [prT_mk, flat_mk, wS_cons, List.length_cons, Nat.mul_succ]
    show _ + (wrs n.name).length + _ ≤ _
    have hw : (wrs n.name).length ≤ wN n := by unfold wN; omega
    have key : n.kind = 5 ∨ n.kind = 6 → d + 1 ≤ D ∧ szK ln (d + 1) E ks ≤ wS (flats ks) + (2 * E + 165) * (flats ks).length := by
      intro h56
      rw [depth_mk, if_pos (by simpa [cont] using h56)] at hd
      refine ⟨by omega, szK_le ln (d + 1) E _ ks fun u hu => ?_⟩
      have h3 := depths_le hu
      exact prT_len ln D E hE N u (d + 1) (by have := kid_lessP (n := n) hu; omega) (hk u hu).1 (hk u hu).2 (by omega)
    split
    · rename_i h5
      obtain ⟨k1, k2⟩ := key (.inl h5)
      have := prB_len ln false d E (hE d (by omega)) (hE (d + 1) k1) ks
      simp only [List.length_cons, List.length_append, List.length_nil]
      omega
    · split
      · rename_i h6
        obtain ⟨k1, k2⟩ := key (.inr h6)
        have := prB_len ln true d E (hE d (by omega)) (hE (d + 1) k1) ks
        simp only [List.length_cons, List.length_append, List.length_nil]
        omega
      · have := scT_len hpl (by assumption) (by assumption)
        omega
theorem compact_len {t : Tr Nd} (h1 : okT many t) (h2 : rightT t = true) : (prT false 0 t).length ≤ wS (flat t) + 165 * (flat t).length := by
  have := prT_len false (depth t) 0 (fun d _ => by simp [prL]) _ t 0 (Nat.le_refl _) h1 h2 (by omega)
  omega
theorem indent_len {t : Tr Nd} (h1 : okT many t) (h2 : rightT t = true) {D : Nat} (hd : depth t ≤ D) : (prT true 0 t).length ≤ wS (flat t) + (4 * D + 167) * (flat t).length := by
  have := prT_len true D (2 * D + 1) (fun d hd => by have := prL_len true d; omega) _ t 0 (Nat.le_refl _) h1 h2 (by omega)
  rw [show 2 * (2 * D + 1) + 165 = 4 * D + 167 by omega] at this
  omega
end Tp
end Go.Proofs.YtafbojiojeemoaaGreatDoor
