/-
  Joined: TxT, TxW, TxZ.
-/
import Derived.Test.YtfeiolklhkclgaaGreatDoorTextBlanksJ15
import Derived.Test.YtfeiolklhkclgaaGreatDoorTextBlanksJ3
import Derived.Test.YtfeiolklhkclgaaGreatDoorQRef2

/-
  Plain words: a value's text is read as it, whatever stands behind that is no numeral. No program stands here.
-/
namespace Go.Proofs.YtfeiolklhkclgaaGreatDoor
namespace Tp
open Go.RowKit Np Rw Vp Up Qp

def lit (ln : Bool) (d : Nat) (t : Tr Nd) : List Nd × List UInt8 := (flat (nmd [] t), prT ln (d + 1) t)
def oit (ln : Bool) (d : Nat) (t : Tr Nd) : Pr × List UInt8 := ((t.nd.name, flat (nmd [] t)), prN ln t.nd.name ++ prT ln (d + 1) t)
theorem prK_list (ln : Bool) (d : Nat) : ∀ ts, prK ln d false ts = tl (prL ln (d + 1)) (ts.map (lit ln d)) ++ prL ln d
  | [] => by rw [prK_nil]; rfl
  | t :: ts => by rw [prK_cons, prK_list ln d ts]; simp [tl, lit]
theorem prK_obj (ln : Bool) (d : Nat) : ∀ ts, prK ln d true ts = tl (prL ln (d + 1)) (ts.map (oit ln d)) ++ prL ln d
  | [] => by rw [prK_nil]; rfl
  | t :: ts => by rw [prK_cons, prK_obj ln d ts]; simp [tl, oit]

theorem printN_hd {n : Nd} (hr : right n = true) : ∃ a T, printN n.s n.neg n.e = a :: T ∧ (a.toNat = 45 ∨ 48 ≤ a.toNat ∧ a.toNat ≤ 57) := by
  have h := readF_first (l := printN n.s n.neg n.e) (by rw [print_back hr])
  cases hp : printN n.s n.neg n.e with
  | nil => rw [hp] at h; simp [bt] at h
  | cons a T => rw [hp] at h; exact ⟨a, T, rfl, h⟩
/-- The first byte. -/
theorem prT_hd (ln : Bool) (d : Nat) (n : Nd) (ks : List (Tr Nd)) (hp : plainN n = true) : ∃ a T, prT ln d (.mk n ks) = a :: T ∧ blk a.toNat = false ∧ a.toNat ≠ 93 ∧ a.toNat ≠ 125 := by
  rw [prT_mk]
  by_cases h5 : n.kind = 5
  · rw [if_pos h5]; exact ⟨91, _, rfl, by decide, by decide, by decide⟩
  rw [if_neg h5]
  by_cases h6 : n.kind = 6
  · rw [if_pos h6]; exact ⟨123, _, rfl, by decide, by decide, by decide⟩
  rw [if_neg h6]
  unfold scT
  by_cases hw : n.kind = 0 ∨ n.kind = 1 ∨ n.kind = 2
  · rw [if_pos hw]
    unfold wordT
    split
    · exact ⟨110, _, rfl, by decide, by decide, by decide⟩
    · split
      · exact ⟨102, _, rfl, by decide, by decide, by decide⟩
      · exact ⟨116, _, rfl, by decide, by decide, by decide⟩
  rw [if_neg hw]
  by_cases h3 : n.kind = 3
  · rw [if_pos h3]
    have hr : right { n with name := [] } = true := by
      unfold plainN at hp
      rw [if_neg hw, if_pos h3] at hp
      exact hp
    obtain ⟨a, T, h1, h2⟩ := printN_hd hr
    refine ⟨a, T, h1, ?_, by omega, by omega⟩
    simp [blk]; omega
  · rw [if_neg h3]; exact ⟨34, _, rfl, by decide, by decide, by decide⟩

theorem fd_reads {S : List UInt8} {n : Nat} {ln : Bool} {nm T : List UInt8} {v : List Nd} (hv : Lib.validD nm = true) (h : Reads (vlR S n) S (v, T)) : Reads (fdR (vlR S n) S) S ((nm, v), prN ln nm ++ T) := by
  intro i B Q hB hd hQ
  simp only at hd ⊢
  have e : prN ln nm ++ T ++ Q = quo nm ++ (58 :: ((if ln = true then [32] else []) ++ (T ++ Q))) := by simp [prN]
  rw [e] at hd
  have h1 : sk S i = i + B.length := sk_blanks hd hB (fun y hy => by simp [quo] at hy; subst hy; decide)
  have h2 := drop_of hd
  have h3 : stR S (i + B.length) = .ok nm (i + B.length + (quo nm).length) := by
    unfold stR
    rw [h2, quo_back nm _ hv]
    rfl
  have h4 := drop_of h2
  have h5 := sk_here h4 (by decide)
  have h6 : S.drop (i + B.length + (quo nm).length + 1) = (if ln = true then [32] else []) ++ (T ++ Q) := drop_of (a := [58]) h4
  have h7 := h _ (if ln = true then [32] else []) Q (by cases ln <;> (intro c hc; simp at hc); subst hc; decide) h6 hQ
  unfold fdR
  rw [h1, h3]
  show (if bt S (sk S (i + B.length + (quo nm).length)) = 58 then _ else _) = _
  rw [h5, if_pos (show bt S _ = 58 from bt_of h4), h7]
  refine congrArg (Rs.ok _) ?_
  simp only [List.length_append, prN, List.length_cons]
  omega
theorem fold_snoc (L : List (List Nd × List UInt8)) : ∀ acc, L.foldl (fun a y => snoc a y.1) acc = acc ++ L.map (·.1) := by
  induction L with
  | nil => simp
  | cons x L ih => intro acc; rw [List.foldl_cons, ih]; simp [snoc]
theorem fold_put (L : List (Pr × List UInt8)) : ∀ acc : List Pr, ((acc ++ L.map (·.1)).map (·.1)).Nodup → L.foldl (fun a y => putP a y.1) acc = acc ++ L.map (·.1) := by
  induction L with
  | nil => simp
  | cons x L ih =>
    intro acc h
    have hx : x.1.1 ∉ acc.map (·.1) := by
      rw [List.map_append, List.nodup_append] at h
      intro hm
      exact h.2.2 _ hm _ (by simp) rfl
    rw [List.foldl_cons, putP_new acc x.1 hx, ih]
    · simp
    · simpa using h

theorem kids_okP {n : Nd} {ks : List (Tr Nd)} (h1 : okT many (.mk n ks)) (h2 : rightT (.mk n ks) = true) : ∀ u ∈ ks, okT many u ∧ rightT u = true := by
  have := val_kids (t := nmd [] (.mk n ks)) (Val.clr h1 h2)
  rwa [nmd_ks] at this
theorem kid_lessP {n : Nd} {ks : List (Tr Nd)} {u : Tr Nd} (hu : u ∈ ks) : (flat u).length < (flat (.mk n ks)).length := by
  obtain ⟨a, c, rfl⟩ := List.append_of_mem hu
  rw [flat_mk, flats_append, flats_cons]
  simp; omega
theorem wo_back {S Q : List UInt8} {j : Nat} {k : Int} (hk : k = 0 ∨ k = 1 ∨ k = 2) (h : S.drop j = wordT k ++ Q) : woR S j = .ok [hdN k 0] (j + (wordT k).length) ∧ (bt S j = 110 ∨ bt S j = 102 ∨ bt S j = 116) := by
  have hb : bt S j = bt (wordT k ++ Q) 0 := by
    have : bt (S.drop j) 0 = bt S j := by rw [bt_drop, Nat.add_zero]
    rw [← this, h]
  rcases hk with rfl | rfl | rfl
  · refine ⟨?_, .inl (by rw [hb]; rfl)⟩
    unfold woR; rw [h, if_pos (by rfl)]; rfl
  · refine ⟨?_, .inr (.inl (by rw [hb]; rfl))⟩
    unfold woR; rw [h, if_neg (by show ¬ (Lib.hasPrefix (102 :: ([97, 108, 115, 101] ++ Q)) wNull = true); simp [Lib.hasPrefix, wNull]), if_pos (by simp [Lib.hasPrefix, wFalse, wordT])]; rfl
  · refine ⟨?_, .inr (.inr (by rw [hb]; rfl))⟩
    unfold woR; rw [h, if_neg (by simp [Lib.hasPrefix, wNull, wordT, wTrue]), if_neg (by simp [Lib.hasPrefix, wFalse, wordT, wTrue]), if_pos (by simp [Lib.hasPrefix, wTrue, wordT])]; rfl

theorem back (ln : Bool) (S : List UInt8) : ∀ (N : Nat) (t : Tr Nd) (d n : Nat), (flat t).length ≤ N → okT many t → rightT t = true → depth t ≤ n → Reads (vlR S n) S (flat (nmd [] t), prT ln d t)
  | 0, t, _, _, hN, _, _, _ => by have := flat_pos t; omega
  | N + 1, .mk nd ks, d, n, hN, h1, h2, hd => by
    intro i B Q hB h hQ
    simp only at h ⊢
    have hval : Val (nmd [] (.mk nd ks)) := Val.clr h1 h2
    have hpl : plainN nd = true := by rw [rightT_mk, Bool.and_eq_true] at h2; exact h2.1
    obtain ⟨a, T0, hT, ha, -, -⟩ := prT_hd ln d nd ks hpl
    have hsk : sk S i = i + B.length := sk_blanks h hB (fun y hy => by rw [hT] at hy; injection hy with hy; subst hy; exact ha)
    have hj := drop_of h
    have hsj : sk S (i + B.length) = i + B.length := by rw [← hsk, sk_sk]
    rw [vlR_sk, hsk]
    generalize i + B.length = j at hj hsj ⊢
    have hks : nd.kind ≠ 5 → nd.kind ≠ 6 → ks = [] := fun h5 h6 => by
      have h3 := (plainN_many hpl).2 h5 h6
      have h4 : nd.many = ks.length := (okT_mk.1 h1).1
      exact List.eq_nil_of_length_eq_zero (by omega)
    have hkid : ∀ u ∈ ks, okT many u ∧ rightT u = true := kids_okP h1 h2
    -- what is no list and no object
    have sc : ∀ arr obj, nd.kind ≠ 5 → nd.kind ≠ 6 → vl1 S arr obj j = .ok (flat (nmd [] (.mk nd ks))) (j + (prT ln d (.mk nd ks)).length) := by
      intro arr obj h5 h6
      have hk0 := hks h5 h6
      subst hk0
      have hfl : flat (nmd [] (.mk nd [])) = [nmN [] nd] := by rw [nmd, flat_mk]; rfl
      have hpt : prT ln d (.mk nd []) = scT nd := by rw [prT_mk, if_neg h5, if_neg h6]
      rw [hfl, hpt]
      rw [hpt] at hj
      by_cases hw : nd.kind = 0 ∨ nd.kind = 1 ∨ nd.kind = 2
      · have e : scT nd = wordT nd.kind := by unfold scT; rw [if_pos hw]
        rw [e] at hj ⊢
        obtain ⟨g1, g2⟩ := wo_back hw hj
        have hn : nmN [] nd = hdN nd.kind 0 := by
          unfold plainN at hpl
          rw [if_pos hw] at hpl
          simp at hpl
          obtain ⟨⟨⟨p1, p2⟩, p3⟩, p4⟩ := hpl
          obtain ⟨a1, a2, a3, a4, a5, a6⟩ := nd
          simp only at p1 p2 p3 p4
          subst p1 p2 p3 p4
          rfl
        unfold vl1
        rw [if_neg (by omega), if_neg (by omega), if_neg (by omega), if_neg (by omega), g1, hn]
      · by_cases h3 : nd.kind = 3
        · have e : scT nd = printN nd.s nd.neg nd.e := by unfold scT; rw [if_neg hw, if_pos h3]
          rw [e] at hj ⊢
          have hr : right (nmN [] nd) = true := by
            unfold plainN at hpl
            rw [if_neg hw, if_pos h3] at hpl
            exact hpl
          obtain ⟨g1, g2⟩ := nu_back (n := nmN [] nd) hr hj hQ
          unfold vl1
          rw [if_neg (by omega), if_neg (by omega), if_neg (by omega), if_pos g2, g1]
          rfl
        · have e : scT nd = quo nd.s := by unfold scT; rw [if_neg hw, if_neg h3]
          rw [e] at hj ⊢
          have h4 : nd.kind = 4 := by
            unfold plainN at hpl
            rw [if_neg hw, if_neg h3] at hpl
            by_cases h4 : nd.kind = 4
            · exact h4
            · rw [if_neg h4, if_neg (by omega)] at hpl; cases hpl
          unfold plainN at hpl
          rw [if_neg hw, if_neg h3, if_pos h4] at hpl
          simp at hpl
          obtain ⟨⟨⟨p1, p2⟩, p3⟩, p4⟩ := hpl
          have hb : bt S j = 34 := bt_of (c := 34) (R := wrs nd.s ++ [34] ++ Q) (by rw [hj]; simp [quo])
          have hq : stR S j = .ok nd.s (j + (quo nd.s).length) := by unfold stR; rw [hj, quo_back nd.s Q p2]; rfl
          unfold vl1
          rw [if_neg (by omega), if_neg (by omega), if_pos hb, hq]
          obtain ⟨a1, a2, a3, a4, a5, a6⟩ := nd
          simp only at p1 p3 p4 h4
          subst p1 p3 p4 h4
          rfl
    by_cases h5 : nd.kind = 5
    · obtain ⟨n, rfl⟩ : ∃ m, n = m + 1 := ⟨n - 1, by rw [depth_mk, if_pos (show cont nd.kind = true by rw [h5]; rfl)] at hd; omega⟩
      have hdk : depths ks ≤ n := by rw [depth_mk, if_pos (show cont nd.kind = true by rw [h5]; rfl)] at hd; omega
      rw [vlR_succ, hsj]
      have hpt : prT ln d (.mk nd ks) = 91 :: (prB ln d false ks ++ [93]) := by rw [prT_mk, if_pos h5]
      have hbj : bt S j = 91 := bt_of (c := 91) (R := prB ln d false ks ++ [93] ++ Q) (by rw [hj, hpt]; rfl)
      have hpart : ptR (vlR S n) snoc [] S 93 j = .ok (ks.map fun u => (lit ln d u).1) (j + (prT ln d (.mk nd ks)).length) := by
        cases ks with
        | nil =>
          rw [hpt, prB_nil] at hj ⊢
          exact part_none (c := 93) (by decide) [] 91 j Q (by rw [hj]; rfl)
        | cons t ts =>
          have e : prB ln d false (t :: ts) = prL ln (d + 1) ++ ((lit ln d t).2 ++ (tl (prL ln (d + 1)) (ts.map (lit ln d)) ++ prL ln d)) := by rw [prB_cons, prK_list]; simp [lit]
          have hrd : ∀ y ∈ lit ln d t :: ts.map (lit ln d), Reads (vlR S n) S y := by
            intro y hy
            rw [← List.map_cons] at hy
            obtain ⟨u, hu, rfl⟩ := List.mem_map.1 hy
            have hlen : (flat u).length ≤ N := by
              have := kid_lessP (n := nd) hu; omega
            have hb := back ln S N u (d + 1) n hlen (hkid u hu).1 (hkid u hu).2 (Nat.le_trans (depths_le hu) hdk)
            exact hb
          obtain ⟨a', T', g1, g2, g3⟩ : ∃ a T, (lit ln d t).2 = a :: T ∧ blk a.toNat = false ∧ a.toNat ≠ (93 : UInt8).toNat := by
            cases t with
            | mk n2 k2 =>
              have hp2 : plainN n2 = true := by have := (hkid (.mk n2 k2) (by simp)).2; rw [rightT_mk, Bool.and_eq_true] at this; exact this.1
              obtain ⟨a, T, g1, g2, g3, g4⟩ := prT_hd ln (d + 1) n2 k2 hp2
              exact ⟨a, T, g1, g2, g3⟩
          have hp := part_back (put := snoc) (c := 93) (P := prL ln (d + 1)) (E := prL ln d) (blk_prL _ _) (blk_prL _ _) (by decide) (by decide) (by decide) [] (lit ln d t) (ts.map (lit ln d)) 91 j Q hrd ⟨a', T', g1, g2, g3⟩ (by rw [hj, hpt, e]; simp)
          have hp2 : ptR (vlR S n) snoc [] S 93 j = _ := hp
          rw [hp2, fold_snoc]
          · refine congr (congrArg Rs.ok ?_) ?_
            · simp [Function.comp_def]
            · rw [hpt, e]; simp only [List.length_cons, List.length_append, List.length_nil]; omega
      unfold vl1
      rw [if_pos hbj]
      show mapR liV (ptR (vlR S n) snoc [] S 93 j) = _
      rw [hpart]
      show Rs.ok (liV _) _ = _
      refine congr (congrArg Rs.ok ?_) rfl
      have := arr_again hval h5
      exact this
    by_cases h6 : nd.kind = 6
    · have hnm := hval.named h6
      have hnames : ∀ u ∈ ks, Lib.validD u.nd.name = true := fun u hu => hnm.2 u hu
      have hnodup : (ks.map fun u => u.nd.name).Nodup := (List.pairwise_map.2 hnm.1).imp (fun {a b} hab (e : a = b) => by subst e; exact List.lt_irrefl a hab)
      obtain ⟨n, rfl⟩ : ∃ m, n = m + 1 := ⟨n - 1, by rw [depth_mk, if_pos (show cont nd.kind = true by rw [h6]; rfl)] at hd; omega⟩
      have hdk : depths ks ≤ n := by rw [depth_mk, if_pos (show cont nd.kind = true by rw [h6]; rfl)] at hd; omega
      rw [vlR_succ, hsj]
      have hpt : prT ln d (.mk nd ks) = 123 :: (prB ln d true ks ++ [125]) := by rw [prT_mk, if_neg h5, if_pos h6]
      have hbj : bt S j = 123 := bt_of (c := 123) (R := prB ln d true ks ++ [125] ++ Q) (by rw [hj, hpt]; rfl)
      have hpart : ptR (fdR (vlR S n) S) putP [] S 125 j = .ok (ks.map fun u => (oit ln d u).1) (j + (prT ln d (.mk nd ks)).length) := by
        cases ks with
        | nil =>
          rw [hpt, prB_nil] at hj ⊢
          exact part_none (c := 125) (by decide) [] 123 j Q (by rw [hj]; rfl)
        | cons t ts =>
          have e : prB ln d true (t :: ts) = prL ln (d + 1) ++ ((oit ln d t).2 ++ (tl (prL ln (d + 1)) (ts.map (oit ln d)) ++ prL ln d)) := by rw [prB_cons, prK_obj]; simp [oit]
          have hrd : ∀ y ∈ oit ln d t :: ts.map (oit ln d), Reads (fdR (vlR S n) S) S y := by
            intro y hy
            rw [← List.map_cons] at hy
            obtain ⟨u, hu, rfl⟩ := List.mem_map.1 hy
            have hlen : (flat u).length ≤ N := by
              have := kid_lessP (n := nd) hu; omega
            have hb := back ln S N u (d + 1) n hlen (hkid u hu).1 (hkid u hu).2 (Nat.le_trans (depths_le hu) hdk)
            exact fd_reads (hnames u hu) hb
          obtain ⟨a', T', g1, g2, g3⟩ : ∃ a T, (oit ln d t).2 = a :: T ∧ blk a.toNat = false ∧ a.toNat ≠ (125 : UInt8).toNat := by
            exact ⟨34, _, rfl, by decide, by decide⟩
          have hp := part_back (put := putP) (c := 125) (P := prL ln (d + 1)) (E := prL ln d) (blk_prL _ _) (blk_prL _ _) (by decide) (by decide) (by decide) [] (oit ln d t) (ts.map (oit ln d)) 123 j Q hrd ⟨a', T', g1, g2, g3⟩ (by rw [hj, hpt, e]; simp)
          have hp2 : ptR (fdR (vlR S n) S) putP [] S 125 j = _ := hp
          rw [hp2, fold_put]
          · refine congr (congrArg Rs.ok ?_) ?_
            · simp [Function.comp_def]
            · rw [hpt, e]; simp only [List.length_cons, List.length_append, List.length_nil]; omega
          · have := hnodup
            simpa [Function.comp_def, oit] using this
      unfold vl1
      rw [if_neg (by rw [hbj]; decide), if_pos hbj]
      show mapR obV (ptR (fdR (vlR S n) S) putP [] S 125 j) = _
      rw [hpart]
      show Rs.ok (obV _) _ = _
      refine congr (congrArg Rs.ok ?_) rfl
      have := (obj_again hval h6).2
      unfold obV
      rw [List.map_map, List.map_map]
      exact this
    cases n with
    | zero => rw [vlR_zero, hsj]; exact sc _ _ h5 h6
    | succ n => rw [vlR_succ, hsj]; exact sc _ _ h5 h6
end Tp
end Go.Proofs.YtfeiolklhkclgaaGreatDoor

/-
  Plain words: what is read is a right value, not too deep; how long its texts are. No program stands here.
-/
namespace Go.Proofs.YtfeiolklhkclgaaGreatDoor
namespace Tp
open Go.RowKit Np Rw Vp Up Qp

/-- What a node's strings are written as. -/
def wN (n : Nd) : Nat := (wrs n.name).length + (if n.kind = 4 then (wrs n.s).length else 0)
def wS (l : List Nd) : Nat := (l.map wN).sum
theorem wS_nil : wS [] = 0 := rfl
theorem wS_cons (n : Nd) (l : List Nd) : wS (n :: l) = wN n + wS l := by simp [wS]
theorem wS_append (a b : List Nd) : wS (a ++ b) = wS a + wS b := by simp [wS]
theorem wN_hd (k : Int) (m : Nat) (hk : k ≠ 4) : wN (hdN k m) = 0 := by simp [wN, hdN, wrs, hk]
theorem wS_set (nm : List UInt8) (l : List Nd) : wS (setNm nm l) ≤ (wrs nm).length + wS l := by
  cases l with
  | nil => simp [setNm, wS]
  | cons n l =>
    rw [setNm, wS_cons, wS_cons]
    simp only [wN]
    omega
theorem wS_laid : ∀ ps : List Pr, wS (laid ps) ≤ (ps.map fun p => (wrs p.1).length + wS p.2).sum
  | [] => by simp [laid, wS]
  | p :: ps => by
    have h1 := wS_laid ps
    have h2 := wS_set p.1 p.2
    rw [laid_cons, wS_append, List.map_cons, List.sum_cons]
    omega
/-- A right value, so deep at most. -/
def Gt (n : Nat) (v : List Nd) : Prop := ∃ t, Val t ∧ v = flat t ∧ depth t ≤ n
theorem gt_leaf {n : Nat} {x : Nd} (hp : plainN x = true) (hm : x.many = 0) (hn : x.name = []) (h5 : x.kind ≠ 5) (h6 : x.kind ≠ 6) : Gt n [x] := by
  refine ⟨.mk x [], ⟨okT_mk.2 ⟨by simp [many, hm], okTs_nil⟩, ?_, hn⟩, by rw [flat_mk]; rfl, ?_⟩
  · rw [rightT_mk, hp]; simp [rightKs]
  · rw [depth_mk, if_neg]; exact Nat.zero_le _
    simp [cont, h5, h6]
theorem depth_of_flat {t u : Tr Nd} (ht : Val t) (hu : Val u) (h : flat t = flat u) : depth t = depth u := by
  rw [← deepG_val ht, ← deepG_val hu, h]
theorem depth_nm (nm : List UInt8) (t : Tr Nd) : depth (nmd nm t) = depth t := by rw [nmd, depth_mk, depth_eq]; rfl
theorem depths_all {n : Nat} : ∀ {ts : List (Tr Nd)}, (∀ t ∈ ts, depth t ≤ n) → depths ts ≤ n
  | [], _ => by simp
  | t :: ts, h => by
    rw [depths_cons]
    exact Nat.max_le.2 ⟨h t (by simp), depths_all fun u hu => h u (by simp [hu])⟩
theorem trees_of {n : Nat} : ∀ {L : List (List Nd)}, (∀ l ∈ L, Gt n l) → ∃ ts : List (Tr Nd), (∀ t ∈ ts, Val t ∧ depth t ≤ n) ∧ L = ts.map flat
  | [], _ => ⟨[], by simp, rfl⟩
  | l :: L, h => by
    obtain ⟨ts, h1, h2⟩ := trees_of fun x hx => h x (List.mem_cons_of_mem _ hx)
    obtain ⟨t, h3, h4, h5⟩ := h l (by simp)
    refine ⟨t :: ts, ?_, by rw [List.map_cons, h4, h2]⟩
    intro u hu
    rcases List.mem_cons.1 hu with rfl | hu
    · exact ⟨h3, h5⟩
    · exact h1 u hu
theorem laid_flats : ∀ {ts : List (Tr Nd)}, (∀ t ∈ ts, Val t) → laid ((ts.map flat).map fun l => (([] : List UInt8), l)) = flats ts
  | [], _ => rfl
  | t :: ts, h => by
    rw [List.map_cons, List.map_cons, laid_cons, flats_cons, laid_flats fun u hu => h u (by simp [hu])]
    congr 1
    show setNm [] (flat t) = flat t
    rw [← flat_nmd]
    conv => rhs; rw [← nmd_self t, (h t (by simp)).nm]
theorem gt_list {n : Nat} {L : List (List Nd)} (h : ∀ l ∈ L, Gt n l) : Gt (n + 1) (liV L) := by
  obtain ⟨ts, h1, rfl⟩ := trees_of h
  refine ⟨arrT ts, val_arrT fun t ht => (h1 t ht).1, ?_, ?_⟩
  · rw [flat_arrT, liV, List.length_map, laid_flats fun t ht => (h1 t ht).1]
  · rw [arrT, depth_mk, if_pos (by simp [cont, hdN])]
    have := depths_all (n := n) fun t ht => (h1 t ht).2
    omega
theorem gt_obj {n : Nat} {ps : List Pr} (hb : objB (ps.map (·.1)) (ps.map (·.2)) = true) (h : ∀ p ∈ ps, Gt n p.2) : Gt (n + 1) (obV ps) := by
  have hr : ∀ l ∈ ps.map (·.2), rightL l = true := by
    intro l hl
    obtain ⟨p, hp, rfl⟩ := List.mem_map.1 hl
    obtain ⟨t, h1, h2, -⟩ := h p hp
    rw [h2]; exact rightL_val h1
  obtain ⟨us, h1, h2, h3, h4, h5⟩ := objV_tree hb hr
  refine ⟨objT us, h1, h2.symm, ?_⟩
  rw [objT, depth_mk, if_pos (by simp [cont, hdN])]
  have h6 : depths us ≤ n := depths_all fun u hu => by
    have h7 : flat (nmd [] u) ∈ us.map (fun u => flat (nmd [] u)) := List.mem_map_of_mem (f := fun u : Tr Nd => flat (nmd [] u)) hu
    rw [h5] at h7
    obtain ⟨p, hp, he⟩ := List.mem_map.1 h7
    have h8 := (srt_perm_self _).mem_iff.1 hp
    have h9 := (List.of_mem_zip (a := p.1) (b := p.2) h8).2
    obtain ⟨q, hq, hq2⟩ := List.mem_map.1 h9
    obtain ⟨t, ht, hf, hd⟩ := h q hq
    have hp2 := h1.parts u (by exact hu)
    rw [← depth_nm [] u, depth_of_flat (Val.clr hp2.1 hp2.2) ht (by rw [← hf, hq2]; exact he.symm)]
    exact hd
  omega
theorem wS_list (L : List (List Nd)) : wS (liV L) ≤ (L.map wS).sum := by
  have h := wS_laid (L.map fun l => (([] : List UInt8), l))
  rw [liV, wS_cons, wN_hd _ _ (by decide)]
  rw [List.map_map] at h
  have e : ((fun p : Pr => (wrs p.1).length + wS p.2) ∘ fun l => (([] : List UInt8), l)) = wS := by funext l; simp [wrs]
  rw [e] at h
  omega
theorem wS_obj {ps : List Pr} (hb : objB (ps.map (·.1)) (ps.map (·.2)) = true) : wS (obV ps) ≤ (ps.map fun p => (wrs p.1).length + wS p.2).sum := by
  have hz : (ps.map (·.1)).zip (ps.map (·.2)) = ps := by rw [List.zip_map']; simp
  rw [obV, objV, if_pos hb, wS_cons, wN_hd _ _ (by decide), hz]
  have h := wS_laid (srt ps)
  rw [((srt_perm_self ps).map fun p : Pr => (wrs p.1).length + wS p.2).sum_nat] at h
  omega
/-- One part for another of its name. -/
theorem sum_putP (f : Pr → Nat) (p : Pr) : ∀ acc : List Pr, (acc.map (·.1)).Nodup → ((acc.map fun q => if q.1 = p.1 then p else q).map f).sum ≤ (acc.map f).sum + f p
  | [], _ => by simp
  | q :: acc, h => by
    rw [List.map_cons, List.nodup_cons] at h
    have ih := sum_putP f p acc h.2
    simp only [List.map_cons, List.sum_cons]
    by_cases e : q.1 = p.1
    · rw [if_pos e]
      have hk : (acc.map fun q => if q.1 = p.1 then p else q) = acc := by
        conv => rhs; rw [← List.map_id acc]
        refine List.map_congr_left fun r hr => ?_
        rw [if_neg]; rfl
        intro hr2
        exact h.1 (List.mem_map.2 ⟨r, hr, by rw [hr2, e]⟩)
      rw [hk]; omega
    · rw [if_neg e]; omega
theorem putP_sum (f : Pr → Nat) (p : Pr) (acc : List Pr) (h : (acc.map (·.1)).Nodup) : ((putP acc p).map f).sum ≤ (acc.map f).sum + f p := by
  unfold putP
  split
  · exact sum_putP f p acc h
  · rw [List.map_append, List.sum_append]; simp
theorem putP_mem {acc : List Pr} {p q : Pr} (h : q ∈ putP acc p) : q ∈ acc ∨ q = p := by
  unfold putP at h
  split at h
  · obtain ⟨r, hr, h⟩ := List.mem_map.1 h
    split at h
    · exact .inr h.symm
    · exact .inl (h ▸ hr)
  · simpa using h
/-- A reading gives right values, no longer than the text. -/
def Good (n : Nat) (rd : Nat → Rs (List Nd)) : Prop := ∀ i v k, rd i = .ok v k → Gt n v ∧ wS v + i ≤ k
theorem stR_wrs {S : List UInt8} {i k : Nat} {v : List UInt8} (h : stR S i = .ok v k) : (wrs v).length + 2 + i ≤ k := by
  unfold stR at h
  rcases unqs_shape (S.drop i) with ⟨h1, h2, h3, h4, h5, -, h6⟩ | ⟨-, h2, -⟩
  · rw [if_pos h1] at h
    injection h with h7 h8
    subst h7 h8
    omega
  · rw [if_neg (by omega)] at h; cases h
theorem nuR_good {S : List UInt8} {n i k : Nat} {v : List Nd} (h : nuR S i = .ok v k) : Gt n v ∧ wS v + i ≤ k := by
  unfold nuR at h
  split at h
  · rename_i h0
    injection h with e1 e2
    subst e1 e2
    have hr : right (readF (nuT S i)).1 = true := by
      rcases read_cases (nuT S i) with h1 | h1
      · exact h1.2
      · rcases h1.2 with h2 | h2 <;> rw [h0] at h2 <;> cases h2
    obtain ⟨r1, r2, r3, -⟩ := (right_iff _).1 hr
    refine ⟨gt_leaf ?_ r2 r3 (by rw [r1]; decide) (by rw [r1]; decide), ?_⟩
    · unfold plainN
      rw [r1, if_neg (by decide), if_pos rfl]
      generalize (readF (nuT S i)).1 = x at *
      obtain ⟨a, b, c, d, e, f⟩ := x
      simp only at r1 r3
      subst r1 r3
      exact hr
    · rw [wS_cons, wS_nil, wN, r1, r3, if_neg (by decide)]
      simp [wrs]
  · cases h
theorem woR_good {S : List UInt8} {n i k : Nat} {v : List Nd} (h : woR S i = .ok v k) : Gt n v ∧ wS v + i ≤ k := by
  have hw : ∀ c : Int, c = 0 ∨ c = 1 ∨ c = 2 → Gt n [hdN c 0] ∧ wS [hdN c 0] = 0 := by
    intro c hc
    refine ⟨gt_leaf ?_ rfl rfl (by simp only [hdN]; omega) (by simp only [hdN]; omega), by rw [wS_cons, wS_nil, wN_hd _ _ (by omega)]⟩
    unfold plainN
    rw [if_pos (by simpa [hdN] using hc)]
    simp [hdN]
  unfold woR at h
  split at h
  · injection h with e1 e2; subst e1 e2; have := hw 0 (by decide); exact ⟨this.1, by rw [this.2]; omega⟩
  · split at h
    · injection h with e1 e2; subst e1 e2; have := hw 1 (by decide); exact ⟨this.1, by rw [this.2]; omega⟩
    · split at h
      · injection h with e1 e2; subst e1 e2; have := hw 2 (by decide); exact ⟨this.1, by rw [this.2]; omega⟩
      · cases h
theorem vl1_good {S : List UInt8} {arr obj : Nat → Rs (List Nd)} {n i : Nat}
    (ha : bt S i = 91 → ∀ v k, arr i = .ok v k → Gt n v ∧ wS v + i ≤ k) (ho : bt S i = 123 → ∀ v k, obj i = .ok v k → Gt n v ∧ wS v + i ≤ k)
    {v : List Nd} {k : Nat} (h : vl1 S arr obj i = .ok v k) : Gt n v ∧ wS v + i ≤ k := by
  unfold vl1 at h
  split at h
  · rename_i hb; exact ha hb v k h
  · split at h
    · rename_i hb; exact ho hb v k h
    · split at h
      · obtain ⟨a, h1, rfl⟩ := mapR_ok h
        obtain ⟨h2, h3, h4, -⟩ := stR_ok h1
        have h5 := stR_wrs h1
        refine ⟨gt_leaf ?_ rfl rfl (by simp) (by simp), ?_⟩
        · simp [plainN, vld, h4]
        · rw [strV, wS_cons, wS_nil, wN]; simp [wrs] at h5 ⊢; omega
      · split at h
        · exact nuR_good h
        · exact woR_good h
theorem li_good {S : List UInt8} {n : Nat} {rd : Nat → Rs (List Nd)} (hg : Goes S rd) (hrd : Good n rd) {j : Nat} (hj : j < S.length) {v : List Nd} {k : Nat} (h : mapR liV (ptR rd Tp.snoc [] S 93 j) = .ok v k) : Gt (n + 1) v ∧ wS v + j ≤ k := by
  obtain ⟨a, h1, rfl⟩ := mapR_ok h
  obtain ⟨h2, h3, h4, h5⟩ := ptR_inv (by decide) (fun i acc => (∀ l ∈ acc, Gt n l) ∧ (acc.map wS).sum + j < i) (fun i acc v k _ hp hr => by
    obtain ⟨g1, g2, -⟩ := hg i v k hr
    obtain ⟨g3, g4⟩ := hrd i v k hr
    refine ⟨g1, g2, fun k' hk' => ⟨?_, ?_⟩⟩
    · intro l hl
      rw [Tp.snoc, List.mem_append, List.mem_singleton] at hl
      rcases hl with hl | rfl
      · exact hp.1 l hl
      · exact g3
    · have := hp.2
      rw [Tp.snoc, List.map_append, List.sum_append]
      simp only [List.map_cons, List.map_nil, List.sum_cons, List.sum_nil]
      omega) hj (fun k hk => ⟨by simp, by simpa using hk⟩) h1
  have := wS_list a
  exact ⟨gt_list h4, by omega⟩
theorem fd_good {S : List UInt8} {n : Nat} {rd : Nat → Rs (List Nd)} (hrd : Good n rd) {i k : Nat} {p : Pr} (h : fdR rd S i = .ok p k) : Gt n p.2 ∧ (wrs p.1).length + wS p.2 + i ≤ k := by
  unfold fdR at h
  cases hs : stR S (sk S i) with
  | bad e q => rw [hs] at h; cases h
  | ok nm k1 =>
    rw [hs] at h
    simp only at h
    have h1 := stR_wrs hs
    split at h
    · cases hr : rd (sk S k1 + 1) with
      | bad e q => rw [hr] at h; cases h
      | ok v k2 =>
        rw [hr] at h
        injection h with e1 e2
        subst e1 e2
        obtain ⟨g1, g2⟩ := hrd _ _ _ hr
        have := sk_ge S i
        have := sk_ge S k1
        exact ⟨g1, by simp only; omega⟩
    · cases h
theorem ob_good {S : List UInt8} {n : Nat} {rd : Nat → Rs (List Nd)} (hg : Goes S rd) (hrd : Good n rd) {j : Nat} (hj : j < S.length) {v : List Nd} {k : Nat} (h : mapR obV (ptR (fdR rd S) putP [] S 125 j) = .ok v k) : Gt (n + 1) v ∧ wS v + j ≤ k := by
  obtain ⟨a, h1, rfl⟩ := mapR_ok h
  obtain ⟨h2, h3, h4, h5, h6⟩ := ptR_inv (by decide) (fun i acc => FdP j i acc ∧ (∀ p ∈ acc, Gt n p.2) ∧ (acc.map fun p : Pr => (wrs p.1).length + wS p.2).sum + j < i) (fun i acc p k hi hp hr => by
    obtain ⟨f1, f2, f3⟩ := fdP_step hg j i acc p k hi hp.1 hr
    obtain ⟨g1, g2⟩ := fd_good hrd hr
    refine ⟨f1, f2, fun k' hk' => ⟨f3 k' hk', ?_, ?_⟩⟩
    · intro q hq
      rcases putP_mem hq with hq | rfl
      · exact hp.2.1 q hq
      · exact g1
    · have := putP_sum (fun p : Pr => (wrs p.1).length + wS p.2) p acc hp.1.2.2.1
      have := hp.2.2
      omega) hj (fun k hk => ⟨FdP.zero hk, by simp, by simpa using hk⟩) h1
  have := wS_obj h4.objB
  exact ⟨gt_obj h4.objB h5, by omega⟩
theorem vlR_good (S : List UInt8) : ∀ n, Good n (vlR S n)
  | 0 => fun i v k h => by
    rw [vlR_zero] at h
    have h1 := sk_ge S i
    have h2 := vl1_good (n := 0) (fun _ v k h => by cases h) (fun _ v k h => by cases h) h
    exact ⟨h2.1, by omega⟩
  | n + 1 => fun i v k h => by
    rw [vlR_succ] at h
    have h1 := sk_ge S i
    have h2 := vl1_good (n := n + 1) (fun hb v k h => li_good (vlR_goes S n) (vlR_good S n) (bt_lt (by omega)) h) (fun hb v k h => ob_good (vlR_goes S n) (vlR_good S n) (bt_lt (by omega)) h) h
    exact ⟨h2.1, by omega⟩
/-- An error has a number, and a place in the text. -/
def Er3 (S : List UInt8) (e : Int) (p : Nat) : Prop := (e = 1 ∨ e = 2 ∨ e = 3) ∧ p ≤ S.length
theorem mapR_bad {α β : Type} {f : α → β} {R : Rs α} {e : Int} {p : Nat} (h : mapR f R = .bad e p) : R = .bad e p := by
  cases R with
  | ok a k => cases h
  | bad e' p' => injection h with e1 e2; subst e1 e2; rfl
theorem nuR_err {S : List UInt8} {i p : Nat} {e : Int} (hi : i ≤ S.length) (h : nuR S i = .bad e p) : Er3 S e p := by
  unfold nuR at h
  split at h
  · cases h
  · rename_i h0
    injection h with e1 e2
    subst e1 e2
    have h1 := readF_at (nuT S i)
    have h2 := nuT_len S i hi
    refine ⟨?_, by omega⟩
    rcases read_cases (nuT S i) with h3 | h3
    · exact absurd h3.1 h0
    · rcases h3.2 with h4 | h4
      · exact .inl h4
      · exact .inr (.inl h4)
theorem woR_err {S : List UInt8} {i p : Nat} {e : Int} (hi : i ≤ S.length) (h : woR S i = .bad e p) : Er3 S e p := by
  unfold woR at h
  split at h
  · cases h
  · split at h
    · cases h
    · split at h
      · cases h
      · injection h with e1 e2; subst e1 e2; exact ⟨.inl rfl, hi⟩
theorem vl1_err {S : List UInt8} {arr obj : Nat → Rs (List Nd)} {i : Nat} (hi : i ≤ S.length)
    (ha : bt S i = 91 → ∀ e p, arr i = .bad e p → Er3 S e p) (ho : bt S i = 123 → ∀ e p, obj i = .bad e p → Er3 S e p)
    {e : Int} {p : Nat} (h : vl1 S arr obj i = .bad e p) : Er3 S e p := by
  unfold vl1 at h
  split at h
  · rename_i hb; exact ha hb e p h
  · split at h
    · rename_i hb; exact ho hb e p h
    · split at h
      · have := stR_bad (mapR_bad h) hi
        exact ⟨.inl this.1, this.2⟩
      · split at h
        · exact nuR_err hi h
        · exact woR_err hi h
theorem ptR_err {α β : Type} {rd : Nat → Rs α} {put : β → α → β} {S : List UInt8} {c : Nat} {zero : β} {j : Nat} (hj : j < S.length)
    (hE : ∀ i e q, i ≤ S.length → rd i = .bad e q → Er3 S e q) (hG : ∀ i v k, i ≤ S.length → rd i = .ok v k → i < k ∧ k ≤ S.length) {e : Int} {p : Nat} (h : ptR rd put zero S c j = .bad e p) : Er3 S e p := by
  unfold ptR at h
  have h5 := sk_le (S := S) (i := j + 1) (by omega)
  split at h
  · cases h
  · rcases lpR_err (fun e q ⟨i, hi, hr⟩ => (hE i e q hi hr).2) hG (S.length + 1) _ _ e p h5 (by omega) h with h1 | ⟨i, hi, hr⟩
    · exact ⟨.inl h1.1, h1.2⟩
    · exact hE i e p hi hr
theorem fdR_err {S : List UInt8} {rd : Nat → Rs (List Nd)} (hE : ∀ i e q, i ≤ S.length → rd i = .bad e q → Er3 S e q) {i : Nat} (hi : i ≤ S.length) {e : Int} {p : Nat} (h : fdR rd S i = .bad e p) : Er3 S e p := by
  unfold fdR at h
  have h1 := sk_le hi
  cases hs : stR S (sk S i) with
  | bad e' q =>
    rw [hs] at h
    injection h with e1 e2
    subst e1 e2
    have := stR_bad hs h1
    exact ⟨.inl this.1, this.2⟩
  | ok nm k1 =>
    rw [hs] at h
    simp only at h
    obtain ⟨g1, g2, -⟩ := stR_ok hs
    have h2 := sk_le g2
    split at h
    · rename_i hb
      have h3 := bt_lt (S := S) (k := sk S k1) (by omega)
      cases hr : rd (sk S k1 + 1) with
      | ok v k2 => rw [hr] at h; cases h
      | bad e' q =>
        rw [hr] at h
        injection h with e1 e2
        subst e1 e2
        exact hE _ _ _ (by omega) hr
    · injection h with e1 e2
      subst e1 e2
      exact ⟨.inl rfl, h2⟩
theorem vlR_err (S : List UInt8) : ∀ n i e p, i ≤ S.length → vlR S n i = .bad e p → Er3 S e p
  | 0, i, e, p, hi, h => by
    rw [vlR_zero] at h
    have h1 := sk_le hi
    exact vl1_err h1 (fun _ e p h => by injection h with e1 e2; subst e1 e2; exact ⟨.inr (.inr rfl), h1⟩) (fun _ e p h => by injection h with e1 e2; subst e1 e2; exact ⟨.inr (.inr rfl), h1⟩) h
  | n + 1, i, e, p, hi, h => by
    rw [vlR_succ] at h
    have h1 := sk_le hi
    have ih := vlR_err S n
    have hg := vlR_goes S n
    refine vl1_err h1 (fun hb e p h => ptR_err (bt_lt (by omega)) ih (fun i v k _ hr => ⟨(hg i v k hr).1, (hg i v k hr).2.1⟩) (mapR_bad h)) (fun hb e p h => ptR_err (bt_lt (by omega)) (fun i e q hi hr => fdR_err ih hi hr) (fun i v k _ hr => ?_) (mapR_bad h)) h
    have := fdR_ok hg hr
    exact ⟨by omega, this.2.1⟩
/-- What D1 says of a text: a right value, or an error at a place in it. -/
theorem prsR_cases (S : List UInt8) : (Gt 128 (prsR S).1 ∧ wS (prsR S).1 ≤ S.length ∧ 2 * (prsR S).1.length ≤ S.length + 1 ∧ (prsR S).2.1 = 0 ∧ (prsR S).2.2 = 0) ∨ ((prsR S).1 = [] ∧ Er3 S (prsR S).2.2 (prsR S).2.1) := by
  unfold prsR
  cases hr : vlR S 128 0 with
  | bad e p => exact .inr ⟨rfl, vlR_err S 128 0 e p (Nat.zero_le _) hr⟩
  | ok x k =>
    obtain ⟨g1, g2⟩ := vlR_good S 128 0 x k hr
    obtain ⟨g3, g4, g5, g6⟩ := vlR_goes S 128 0 x k hr
    simp only
    split
    · exact .inr ⟨rfl, .inl rfl, sk_le g4⟩
    · exact .inl ⟨g1, by simp only; omega, by simp only; omega, rfl, rfl⟩

/-! ### how long a text is -/
theorem wordT_len (k : Int) : (wordT k).length ≤ 5 := by unfold wordT; split <;> (try split) <;> decide
theorem prN_len (ln : Bool) (nm : List UInt8) : (prN ln nm).length ≤ (wrs nm).length + 4 := by
  unfold prN
  rw [List.length_append, quo_len, List.length_cons]
  split <;> simp
theorem scT_len {n : Nd} (hp : plainN n = true) (h5 : n.kind ≠ 5) (h6 : n.kind ≠ 6) : (scT n).length + (wrs n.name).length ≤ wN n + 160 := by
  unfold scT wN
  split
  · have := wordT_len n.kind; omega
  · rename_i h0
    split
    · rename_i h3
      have hr : right { n with name := [] } = true := by unfold plainN at hp; rw [if_neg h0, if_pos h3] at hp; exact hp
      obtain ⟨b1, b2, b3⟩ := right_bounds hr
      have := print_short n.s n.neg n.e (by simp only at b2; omega) (by simp only at b3; omega)
      simp only at b1
      omega
    · rename_i h3
      have h4 : n.kind = 4 := by
        unfold plainN at hp
        rw [if_neg h0, if_neg h3] at hp
        split at hp
        · assumption
        · split at hp
          · omega
          · cases hp
      rw [if_pos h4, quo_len]; omega
/-- The sum of what the parts are written as. -/
def szK (ln : Bool) (d E : Nat) (ks : List (Tr Nd)) : Nat := (ks.map fun u => (prT ln d u).length + (wrs u.nd.name).length + (E + 5)).sum
theorem prK_len (ln : Bool) (ob : Bool) (d E : Nat) (hd0 : (prL ln d).length ≤ E) (hd : (prL ln (d + 1)).length ≤ E) : ∀ ks : List (Tr Nd), (prK ln d ob ks).length ≤ szK ln (d + 1) E ks + E
  | [] => by rw [prK_nil]; simp only [szK, List.map_nil, List.sum_nil]; omega
  | u :: ks => by
    have h1 := prK_len ln ob d E hd0 hd ks
    have h3 : (if ob = true then prN ln u.nd.name else []).length ≤ (wrs u.nd.name).length + 4 := by
      split
      · exact prN_len ln _
      · simp
    rw [prK_cons, List.length_cons, List.length_append, List.length_append, List.length_append]
    simp only [szK, List.map_cons, List.sum_cons] at h1 ⊢
    omega
theorem prB_len (ln : Bool) (ob : Bool) (d E : Nat) (hd0 : (prL ln d).length ≤ E) (hd : (prL ln (d + 1)).length ≤ E) (ks : List (Tr Nd)) : (prB ln d ob ks).length ≤ szK ln (d + 1) E ks + E := by
  cases ks with
  | nil => rw [prB_nil]; simp
  | cons u ks =>
    have h1 := prK_len ln ob d E hd0 hd ks
    have h3 : (if ob = true then prN ln u.nd.name else []).length ≤ (wrs u.nd.name).length + 4 := by
      split
      · exact prN_len ln _
      · simp
    rw [prB_cons, List.length_append, List.length_append, List.length_append]
    simp only [szK, List.map_cons, List.sum_cons] at h1 ⊢
    omega
theorem wS_flats : ∀ ks : List (Tr Nd), wS (flats ks) = (ks.map fun u => wS (flat u)).sum
  | [] => rfl
  | u :: ks => by rw [flats_cons, wS_append, wS_flats ks]; simp
theorem len_flats : ∀ ks : List (Tr Nd), (flats ks).length = (ks.map fun u => (flat u).length).sum
  | [] => rfl
  | u :: ks => by rw [flats_cons, List.length_append, len_flats ks]; simp
theorem szK_le (ln : Bool) (d E : Nat) (c : Nat) : ∀ ks : List (Tr Nd), (∀ u ∈ ks, (prT ln d u).length + (wrs u.nd.name).length + (E + 5) ≤ wS (flat u) + c * (flat u).length) → szK ln d E ks ≤ wS (flats ks) + c * (flats ks).length
  | [], _ => by simp [szK]
  | u :: ks, h => by
    have h1 := szK_le ln d E c ks fun x hx => h x (List.mem_cons_of_mem _ hx)
    have h2 := h u (by simp)
    rw [flats_cons, wS_append, List.length_append, Nat.mul_add]
    simp only [szK, List.map_cons, List.sum_cons] at h1 ⊢
    omega
theorem prT_len (ln : Bool) (D E : Nat) (hE : ∀ d, d ≤ D → (prL ln d).length ≤ E) : ∀ (N : Nat) (t : Tr Nd) (d : Nat), (flat t).length ≤ N → okT many t → rightT t = true → d + depth t ≤ D →
    (prT ln d t).length + (wrs t.nd.name).length + (E + 5) ≤ wS (flat t) + (2 * E + 165) * (flat t).length
  | 0, t, _, hN, _, _, _ => by have := flat_pos t; omega
  | N + 1, .mk n ks, d, hN, h1, h2, hd => by
    have hk := kids_okP h1 h2
    have hpl : plainN n = true := by rw [rightT_mk, Bool.and_eq_true] at h2; exact h2.1
    rw [prT_mk, flat_mk, wS_cons, List.length_cons, Nat.mul_succ]
    show _ + (wrs n.name).length + _ ≤ _
    have hw : (wrs n.name).length ≤ wN n := by unfold wN; omega
    have key : n.kind = 5 ∨ n.kind = 6 → d + 1 ≤ D ∧ szK ln (d + 1) E ks ≤ wS (flats ks) + (2 * E + 165) * (flats ks).length := by
      intro h56
      rw [depth_mk, if_pos (by simpa [cont] using h56)] at hd
      refine ⟨by omega, szK_le ln (d + 1) E _ ks fun u hu => ?_⟩
      have h3 := depths_le hu
      exact prT_len ln D E hE N u (d + 1) (by have := kid_lessP (n := n) hu; omega) (hk u hu).1 (hk u hu).2 (by omega)
    split
    · rename_i h5
      obtain ⟨k1, k2⟩ := key (.inl h5)
      have := prB_len ln false d E (hE d (by omega)) (hE (d + 1) k1) ks
      simp only [List.length_cons, List.length_append, List.length_nil]
      omega
    · split
      · rename_i h6
        obtain ⟨k1, k2⟩ := key (.inr h6)
        have := prB_len ln true d E (hE d (by omega)) (hE (d + 1) k1) ks
        simp only [List.length_cons, List.length_append, List.length_nil]
        omega
      · have := scT_len hpl (by assumption) (by assumption)
        omega
theorem compact_len {t : Tr Nd} (h1 : okT many t) (h2 : rightT t = true) : (prT false 0 t).length ≤ wS (flat t) + 165 * (flat t).length := by
  have := prT_len false (depth t) 0 (fun d _ => by simp [prL]) _ t 0 (Nat.le_refl _) h1 h2 (by omega)
  omega
theorem indent_len {t : Tr Nd} (h1 : okT many t) (h2 : rightT t = true) {D : Nat} (hd : depth t ≤ D) : (prT true 0 t).length ≤ wS (flat t) + (4 * D + 167) * (flat t).length := by
  have := prT_len true D (2 * D + 1) (fun d hd => by have := prL_len true d; omega) _ t 0 (Nat.le_refl _) h1 h2 (by omega)
  rw [show 2 * (2 * D + 1) + 165 = 4 * D + 167 by omega] at this
  omega
end Tp
end Go.Proofs.YtfeiolklhkclgaaGreatDoor

/-
  Plain words: a text with lines, without its blanks, is the compact one. No program stands here.
-/
namespace Go.Proofs.YtfeiolklhkclgaaGreatDoor
namespace Tp
open Go.RowKit Np Rw Vp Up Qp

def nob (c : UInt8) : Bool := !decide (c = 32) && !decide (c = 10)
/-- What the statement calls bare. -/
def bareL (l : List UInt8) : List UInt8 := l.filter nob
theorem bare_append (a b : List UInt8) : bareL (a ++ b) = bareL a ++ bareL b := List.filter_append ..
theorem bare_id {l : List UInt8} (h : ∀ c ∈ l, nob c = true) : bareL l = l := List.filter_eq_self.2 h
theorem bare_all {l : List UInt8} (h : bareL l = l) : ∀ c ∈ l, nob c = true := List.filter_eq_self.1 h
theorem bare_cons {c : UInt8} (l : List UInt8) (h : nob c = true) : bareL (c :: l) = c :: bareL l := List.filter_cons_of_pos h
theorem wr_nob (c : UInt8) (h : nob c = true) : ∀ x ∈ wr c, nob x = true := by
  have key : ∀ n, n < 256 → nob (UInt8.ofNat n) = true → ∀ x ∈ wr (UInt8.ofNat n), nob x = true := by decide +kernel
  have h1 := key c.toNat c.toNat_lt
  rw [UInt8.ofNat_toNat] at h1
  exact h1 h
theorem wrs_nob {l : List UInt8} (h : ∀ c ∈ l, nob c = true) : ∀ x ∈ wrs l, nob x = true := by
  intro x hx
  obtain ⟨c, hc, hx⟩ := List.mem_flatMap.1 hx
  exact wr_nob c (h c hc) x hx
theorem quo_nob {l : List UInt8} (h : ∀ c ∈ l, nob c = true) : ∀ x ∈ quo l, nob x = true := by
  intro x hx
  unfold quo at hx
  simp only [List.mem_cons, List.mem_append, List.not_mem_nil, or_false] at hx
  rcases hx with rfl | hx | rfl
  · decide
  · exact wrs_nob h x hx
  · decide
theorem num_nob {c : UInt8} (h : numB.contains c = true) : nob c = true := by
  have key : ∀ c ∈ numB, nob c = true := by decide
  exact key c (by simpa using h)
theorem prL_bare (ln : Bool) (d : Nat) : bareL (prL ln d) = [] := by
  unfold prL
  split
  · rw [bareL, List.filter_eq_nil_iff]
    intro c hc
    rcases List.mem_cons.1 hc with rfl | hc
    · decide
    · rw [(List.mem_replicate.1 hc).2]; decide
  · rfl
theorem prN_bare {nm : List UInt8} (h : ∀ c ∈ nm, nob c = true) (ln : Bool) : bareL (prN ln nm) = prN false nm := by
  unfold prN
  rw [bare_append, bare_id (quo_nob h), bare_cons _ (by decide)]
  cases ln <;> rfl
theorem scT_bare {n : Nd} (hp : plainN n = true) (hs : ∀ c ∈ n.s, nob c = true) : bareL (scT n) = scT n := by
  apply bare_id
  unfold scT
  split
  · unfold wordT
    split
    · decide
    · split <;> decide
  · rename_i h0
    split
    · rename_i h3
      have hr : right { n with name := [] } = true := by unfold plainN at hp; rw [if_neg h0, if_pos h3] at hp; exact hp
      have hf : figs n.s = true := by
        by_cases he : n.s = []
        · rw [he]; rfl
        · obtain ⟨-, -, -, h | ⟨-, h, -⟩⟩ := (right_iff _).1 hr
          · exact absurd h.1 he
          · unfold rfigs at h
            simp only [Bool.and_eq_true] at h
            exact h.1.1.2
      intro c hc
      exact num_nob (printN_num hf _ _ c hc)
    · exact quo_nob hs
/-- No string or name of it has a blank. -/
def Bare (l : List Nd) : Prop := ∀ x ∈ l, (∀ c ∈ x.s, nob c = true) ∧ ∀ c ∈ x.name, nob c = true
theorem prK_bare (d : Nat) (ob : Bool) : ∀ ks : List (Tr Nd), (∀ u ∈ ks, bareL (prT true (d + 1) u) = prT false (d + 1) u ∧ ∀ c ∈ u.nd.name, nob c = true) → bareL (prK true d ob ks) = prK false d ob ks
  | [], _ => by rw [prK_nil, prK_nil, prL_bare]; rfl
  | u :: ks, h => by
    have ih := prK_bare d ob ks fun x hx => h x (List.mem_cons_of_mem _ hx)
    obtain ⟨h1, h2⟩ := h u (by simp)
    have h3 : bareL (if ob = true then prN true u.nd.name else []) = if ob = true then prN false u.nd.name else [] := by
      split
      · exact prN_bare h2 true
      · rfl
    rw [prK_cons, prK_cons, bare_cons _ (by decide), bare_append, bare_append, bare_append, ih, h1, h3, prL_bare]
    rfl
theorem prB_bare (d : Nat) (ob : Bool) (ks : List (Tr Nd)) (h : ∀ u ∈ ks, bareL (prT true (d + 1) u) = prT false (d + 1) u ∧ ∀ c ∈ u.nd.name, nob c = true) : bareL (prB true d ob ks) = prB false d ob ks := by
  cases ks with
  | nil => rw [prB_nil, prB_nil]; rfl
  | cons u ks =>
    have ih := prK_bare d ob ks fun x hx => h x (List.mem_cons_of_mem _ hx)
    obtain ⟨h1, h2⟩ := h u (by simp)
    have h3 : bareL (if ob = true then prN true u.nd.name else []) = if ob = true then prN false u.nd.name else [] := by
      split
      · exact prN_bare h2 true
      · rfl
    rw [prB_cons, prB_cons, bare_append, bare_append, bare_append, ih, h1, h3, prL_bare]
    rfl
theorem prT_bare : ∀ (N : Nat) (t : Tr Nd) (d : Nat), (flat t).length ≤ N → okT many t → rightT t = true → Bare (flat t) → bareL (prT true d t) = prT false d t
  | 0, t, _, hN, _, _, _ => by have := flat_pos t; omega
  | N + 1, .mk n ks, d, hN, h1, h2, hB => by
    have hk := kids_okP h1 h2
    have hpl : plainN n = true := by rw [rightT_mk, Bool.and_eq_true] at h2; exact h2.1
    have hn := hB n (by rw [flat_mk]; simp)
    have hks : ∀ u ∈ ks, bareL (prT true (d + 1) u) = prT false (d + 1) u ∧ ∀ c ∈ u.nd.name, nob c = true := by
      intro u hu
      have hB2 : Bare (flat u) := fun x hx => hB x (by
        rw [flat_mk, List.mem_cons]
        refine .inr ?_
        obtain ⟨a, c, rfl⟩ := List.append_of_mem hu
        rw [flats_append, flats_cons]
        simp [hx])
      exact ⟨prT_bare N u (d + 1) (by have := kid_lessP (n := n) hu; omega) (hk u hu).1 (hk u hu).2 hB2, (hB2 u.nd (by rw [flat_eq]; simp)).2⟩
    rw [prT_mk, prT_mk]
    split
    · rw [bare_cons _ (by decide), bare_append, prB_bare d false ks hks]; rfl
    · split
      · rw [bare_cons _ (by decide), bare_append, prB_bare d true ks hks]; rfl
      · exact scT_bare hpl hn.1

/-! ### blanks around -/
/-- A value's text, with blanks ahead and behind, is read as it. -/
theorem blanks_parse {t : Tr Nd} (hv : Val t) (hd : depth t ≤ 128) (ln : Bool) {B E : List UInt8} (hB : Blk B) (hE : Blk E) : prsR (B ++ (prT ln 0 t ++ E)) = (flat t, 0, 0) := by
  have hS : Stop E := by
    intro c hc
    cases E with
    | nil => cases hc
    | cons x E => injection hc with hc; subst hc; exact blk_num (hE x (by simp))
  have hb := back ln (B ++ (prT ln 0 t ++ E)) _ t 0 128 (Nat.le_refl _) hv.ok hv.rt hd 0 B E hB (by simp) hS
  have e : nmd [] t = t := by conv => rhs; rw [← nmd_self t, hv.nm]
  simp only [e, Nat.zero_add] at hb
  unfold prsR
  rw [hb]
  simp only
  have h1 : (B ++ (prT ln 0 t ++ E)).drop (B.length + (prT ln 0 t).length) = E ++ [] := by
    rw [← List.append_assoc, List.drop_append_of_le_length (by simp)]; simp
  rw [sk_blanks h1 hE (by simp), if_neg]
  simp only [List.length_append]
  omega
/-- Something behind a value. -/
theorem more_parse {t u : Tr Nd} (hv : Val t) (hd : depth t ≤ 128) (hu : Val u) (ln : Bool) : prsR (prT ln 0 t ++ 32 :: prT ln 0 u) = ([], (prT ln 0 t).length + 1, 1) := by
  have hb := back ln (prT ln 0 t ++ 32 :: prT ln 0 u) _ t 0 128 (Nat.le_refl _) hv.ok hv.rt hd 0 [] (32 :: prT ln 0 u) Blk.nil (by simp) (Stop.cons (by decide))
  have e : nmd [] t = t := by conv => rhs; rw [← nmd_self t, hv.nm]
  simp only [e, List.length_nil, Nat.zero_add] at hb
  unfold prsR
  rw [hb]
  simp only
  have hpu : plainN u.nd = true := hu.plain
  obtain ⟨n, ks⟩ := u
  obtain ⟨a, T, h1, h2, -⟩ := prT_hd ln 0 n ks hpu
  have h3 : (prT ln 0 t ++ 32 :: prT ln 0 (.mk n ks)).drop (prT ln 0 t).length = [32] ++ prT ln 0 (.mk n ks) := by simp
  rw [sk_blanks h3 (by intro c hc; simp at hc; subst hc; decide) (by rw [h1]; intro c hc; injection hc with hc; subst hc; exact h2), if_pos]
  · simp
  · rw [h1]; simp
end Tp
end Go.Proofs.YtfeiolklhkclgaaGreatDoor
