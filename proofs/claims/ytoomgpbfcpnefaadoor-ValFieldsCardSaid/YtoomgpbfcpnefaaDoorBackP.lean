/-
  Plain words: a list's parts are what it was made of; an object, made of its names and parts, is it; parts are right, and less deep. No program stands here.
-/
import Derived.Test.YtoomgpbfcpnefaaDoorObjP2
namespace Go.Proofs.YtoomgpbfcpnefaaDoor
namespace Vp
open Go.RowKit Np Rw

theorem setNm_val {t : Tr Nd} (h : Val t) : setNm [] (flat t) = flat t := by rw [← flat_nmd, ← h.nm, nmd_self]
theorem rows_trees : ∀ L : List (List Nd), (∀ l ∈ L, rightL l = true) → ∃ ts : List (Tr Nd), (∀ t ∈ ts, Val t) ∧ L = ts.map flat
  | [], _ => ⟨[], by simp, rfl⟩
  | l :: L, h => by
    obtain ⟨ts, h1, h2⟩ := rows_trees L (fun x hx => h x (by simp [hx]))
    obtain ⟨t, ht, he⟩ := val_of_rightL (h l (by simp))
    exact ⟨t :: ts, by intro x hx; rcases List.mem_cons.1 hx with rfl | hx <;> first | exact ht | exact h1 x hx, by rw [List.map_cons, ← h2, he]⟩
theorem laid_plain : ∀ ts : List (Tr Nd), (∀ t ∈ ts, Val t) → laid ((ts.map flat).map fun l => (([], l) : Pr)) = flats ts
  | [], _ => rfl
  | t :: ts, h => by
    rw [List.map_cons, List.map_cons, laid_cons, laid_plain ts (fun x hx => h x (by simp [hx])), flats_cons]
    rw [setNm_val (h t (by simp))]
theorem list_tree {ts : List (Tr Nd)} (h : ∀ t ∈ ts, Val t) : hdN 5 (ts.map flat).length :: laid ((ts.map flat).map fun l => ([], l)) = flat (arrT ts) := by
  rw [laid_plain ts h, flat_arrT, List.length_map]
theorem nmd_all {ts : List (Tr Nd)} (h : ∀ t ∈ ts, t.nd.name = []) : ts.map (fun k => flat (nmd [] k)) = ts.map flat := by
  apply List.map_congr_left
  intro t ht
  conv => rhs; rw [← nmd_self t, h t ht]
theorem part_val {t k : Tr Nd} (h : Val t) (hk : k ∈ t.ks) : Val (nmd [] k) := Val.clr (h.parts k hk).1 (h.parts k hk).2
theorem depth_nmd (nm : List UInt8) (t : Tr Nd) : depth (nmd nm t) = depth t := by rw [depth_eq, depth_eq t]; rfl
theorem depths_le : ∀ {ts : List (Tr Nd)} {k : Tr Nd}, k ∈ ts → depth k ≤ depths ts
  | t :: ts, k, h => by
    rw [depths_cons]
    rcases List.mem_cons.1 h with rfl | h
    · omega
    · have := depths_le h; omega
theorem Val.cont {t : Tr Nd} (h : Val t) (h0 : t.ks ≠ []) : cont t.nd.kind = true := by
  rcases Classical.em (t.nd.kind = 5) with h5 | h5
  · rw [h5]; rfl
  · rcases Classical.em (t.nd.kind = 6) with h6 | h6
    · rw [h6]; rfl
    · exact absurd (h.leaf h5 h6) h0
theorem part_depth {t k : Tr Nd} (h : Val t) (hk : k ∈ t.ks) : depth (nmd [] k) < depth t := by
  rw [depth_nmd, depth_eq t, if_pos (h.cont (by intro e; rw [e] at hk; cases hk))]
  have := depths_le hk
  omega
theorem laid_named : ∀ ks : List (Tr Nd), laid ((ks.map fun k => k.nd.name).zip (ks.map fun k => flat (nmd [] k))) = flats ks
  | [] => rfl
  | k :: ks => by
    rw [List.map_cons, List.map_cons, List.zip_cons_cons, laid_cons, laid_named ks, flats_cons]
    show setNm k.nd.name (flat (nmd [] k)) ++ _ = _
    rw [← flat_nmd, nmd_nmd, nmd_self]
theorem obj_again {t : Tr Nd} (h : Val t) (hk : t.nd.kind = 6) : objB (t.ks.map fun k => k.nd.name) (t.ks.map fun k => flat (nmd [] k)) = true ∧ objV (t.ks.map fun k => k.nd.name) (t.ks.map fun k => flat (nmd [] k)) = flat t := by
  obtain ⟨h1, h2⟩ := h.named hk
  have hr : (t.ks.map fun k => k.nd.name).Pairwise (· < ·) := List.pairwise_map.2 h1
  have hb : objB (t.ks.map fun k => k.nd.name) (t.ks.map fun k => flat (nmd [] k)) = true := by
    refine objB_iff.2 ⟨by simp, ?_, fun s hs => ?_⟩
    · exact hr.imp (fun {a b} hab (e : a = b) => by subst e; exact List.lt_irrefl a hab)
    · obtain ⟨k, hk', rfl⟩ := List.mem_map.1 hs
      exact h2 k hk'
  refine ⟨hb, ?_⟩
  have hz : rises ((t.ks.map fun k => k.nd.name).zip (t.ks.map fun k => flat (nmd [] k))) := by
    have := List.pairwise_map (f := Prod.fst) (l := (t.ks.map fun k => k.nd.name).zip (t.ks.map fun k => flat (nmd [] k))) (R := (· < ·))
    rw [zip_keys (by simp)] at this
    exact this.1 hr
  rw [objV, if_pos hb, srt_of (List.Perm.refl _) hz, laid_named]
  conv => rhs; rw [h.obj hk, flat_objT]
  rw [List.length_map]
theorem arr_again {t : Tr Nd} (h : Val t) (hk : t.nd.kind = 5) : hdN 5 (t.ks.map fun k => flat (nmd [] k)).length :: laid ((t.ks.map fun k => flat (nmd [] k)).map fun l => ([], l)) = flat t := by
  have hn := h.unnamed hk
  have hv : ∀ k ∈ t.ks, Val k := fun k hk' => ⟨(h.parts k hk').1, (h.parts k hk').2, hn k hk'⟩
  rw [nmd_all hn, list_tree hv, ← h.arr hk]
theorem depth_leaf {t : Tr Nd} (h5 : t.nd.kind ≠ 5) (h6 : t.nd.kind ≠ 6) : depth t = 0 := by
  rw [depth_eq, if_neg]
  simp [cont, h5, h6]
theorem mem_flats : ∀ {ts : List (Tr Nd)} {k : Tr Nd} {n : Nd}, k ∈ ts → n ∈ flat k → n ∈ flats ts
  | t :: ts, k, n, h, hn => by
    rw [flats_cons, List.mem_append]
    rcases List.mem_cons.1 h with rfl | h
    · exact .inl hn
    · exact .inr (mem_flats h hn)
theorem len_flats : ∀ {ts : List (Tr Nd)} {k : Tr Nd}, k ∈ ts → (flat k).length ≤ (flats ts).length
  | t :: ts, k, h => by
    rw [flats_cons, List.length_append]
    rcases List.mem_cons.1 h with rfl | h
    · omega
    · have := len_flats h; omega
theorem sum_flats : ∀ ts : List (Tr Nd), ((ts.map flat).map List.length).sum = (flats ts).length
  | [] => rfl
  | t :: ts => by rw [List.map_cons, List.map_cons, List.sum_cons, sum_flats ts, flats_cons, List.length_append]
end Vp
end Go.Proofs.YtoomgpbfcpnefaaDoor
