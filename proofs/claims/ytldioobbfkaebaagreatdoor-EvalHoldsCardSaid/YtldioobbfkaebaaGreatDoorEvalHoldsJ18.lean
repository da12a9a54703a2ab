/-
  Joined: FrD.
-/
import Derived.Test.YtldioobbfkaebaaGreatDoorEvalHoldsJ14
import Derived.Test.YtldioobbfkaebaaGreatDoorEvalHoldsJ13
import Derived.OrdersHeld
import Derived.Deep.RegionHeld3
set_option maxHeartbeats 8000000
set_option maxRecDepth 100000
namespace Go.Proofs.YtldioobbfkaebaaGreatDoor
open Go.RowKit Np Rw Vp Pw Fw
theorem kidsF_cons' (op left : Int) (a : List (List UInt8)) (k : Tr Tm) (ks : List (Tr Tm)) (h : letsF ⟨op, left, a⟩ k.nd = false) : kidsF op left a (k :: ks) = false := by rw [kidsF_cons, h]; rfl
theorem kidsF_more (op left : Int) (a : List (List UInt8)) (k : Tr Tm) (ks : List (Tr Tm)) (h : letsF ⟨op, left, a⟩ k.nd = true) : kidsF op left a (k :: ks) = kidsF op (left - 1) (a ++ [k.nd.name]) ks := by rw [kidsF_cons, h]; rfl
theorem t22 {W : World} {a b : Nat} {o1 m1 k1 o2 m2 k2 : Int} {n1 s1 n2 s2 : List UInt8} {c1 c2 : Nd} (h : Tm11 W a 0 ⟨o1, m1, n1, s1, k1, c1⟩ ∧ Tm11 W b 0 ⟨o2, m2, n2, s2, k2, c2⟩) :
 W.cell? ⟨a, 0, none⟩ = some (.int .i64 o1) ∧ W.cell? ⟨a, 1, none⟩ = some (.int .i64 m1) ∧ W.cell? ⟨a, 2, none⟩ = some (.string ⟨n1.toArray⟩) ∧ W.cell? ⟨a, 3, none⟩ = some (.string ⟨s1.toArray⟩) ∧ W.cell? ⟨a, 4, none⟩ = some (.int .i64 k1) ∧ W.cell? ⟨a, 5, none⟩ = some (.int .i64 c1.kind) ∧ W.cell? ⟨a, 6, none⟩ = some (.int .i64 c1.many) ∧ W.cell? ⟨a, 7, none⟩ = some (.string ⟨c1.name.toArray⟩) ∧ W.cell? ⟨a, 8, none⟩ = some (.string ⟨c1.s.toArray⟩) ∧ W.cell? ⟨a, 9, none⟩ = some (.bool c1.neg) ∧ W.cell? ⟨a, 10, none⟩ = some (.int .i64 c1.e) ∧ W.cell? ⟨b, 0, none⟩ = some (.int .i64 o2) ∧ W.cell? ⟨b, 1, none⟩ = some (.int .i64 m2) ∧ W.cell? ⟨b, 2, none⟩ = some (.string ⟨n2.toArray⟩) ∧ W.cell? ⟨b, 3, none⟩ = some (.string ⟨s2.toArray⟩) ∧ W.cell? ⟨b, 4, none⟩ = some (.int .i64 k2) ∧ W.cell? ⟨b, 5, none⟩ = some (.int .i64 c2.kind) ∧ W.cell? ⟨b, 6, none⟩ = some (.int .i64 c2.many) ∧ W.cell? ⟨b, 7, none⟩ = some (.string ⟨c2.name.toArray⟩) ∧ W.cell? ⟨b, 8, none⟩ = some (.string ⟨c2.s.toArray⟩) ∧ W.cell? ⟨b, 9, none⟩ = some (.bool c2.neg) ∧ W.cell? ⟨b, 10, none⟩ = some (.int .i64 c2.e) := by
 obtain ⟨⟨t0, t1, t2, t3, t4, t5, t6, t7, t8, t9, t10⟩, ⟨x0, x1, x2, x3, x4, x5, x6, x7, x8, x9, x10⟩⟩ := h
 simp only [Nat.zero_add] at t1 t2 t3 t4 t5 t6 t7 t8 t9 t10 x1 x2 x3 x4 x5 x6 x7 x8 x9 x10
 exact ⟨t0, t1, t2, t3, t4, t5, t6, t7, t8, t9, t10, x0, x1, x2, x3, x4, x5, x6, x7, x8, x9, x10⟩
theorem refPartsT_any (v : Value) (l : List Tm) (at_ : Nat) (s : Tr Tm) (r : List Tm) (w : World) (hv : Tms w v l) (hl : l.length ≤ 65536) (hsh : ShortF l) (hs : l.drop at_ = flat s ++ r) (ho : okT tmany s) (hp : plainT s.nd = true) :
  Calls Tryz.prog 106 #[v, .int .i64 at_] w fun e w' => e = .returned (.bool (kidsF s.nd.op s.nd.many [] s.ks)) ∧ Below w.heap.size w w' := by
 generalize hans : kidsF s.nd.op s.nd.many [] s.ks = ans
 have HANS := Lib.hid hans; clear hans
 have hat := frpart_lt hs
 have hfp := flat_pos s
 have hvH := Lib.hid hv
 obtain ⟨g, o, c, rfl, hc, hcm, hg, hx⟩ := hv.opened (by omega)
 have HX := Lib.hid hx; clear hx
 have HS := Lib.hid hs
 obtain ⟨a0, a1, a2, a3, a4, a5, a6, a7, a8, a9, a10⟩ := (HX.out at_ _ (fhead_at hs)).tm
 have hmany : s.nd.many = s.ks.length := (okT_eq.1 ho).1
 have HO := Lib.hid ho
 have HKS : Hid (okTs tmany s.ks) := Lib.hid (okT_eq.1 ho).2
 have HSH := Lib.hid hsh
 have HPL := Lib.hid hp
 clear hs ho hsh hp
 have hkl : s.ks.length ≤ 65536 := by
  have h1 := flats_len s.ks
  have h2 : (flat s).length = 1 + (flats s.ks).length := by rw [flat_eq]; simp; omega
  omega
 generalize hn : l.length = n at *
 have HN := Lib.hid hn; clear hn
 have HT := Lib.hid (tmr_alloc w s.nd)
 have HB : Hid (Below w.heap.size w (w.alloc (.cells #[.int .i64 s.nd.op, .int .i64 s.nd.many, .string ⟨s.nd.name.toArray⟩, .string ⟨s.nd.s.toArray⟩, .int .i64 s.nd.n, .int .i64 s.nd.c.kind, .int .i64 s.nd.c.many, .string ⟨s.nd.c.name.toArray⟩, .string ⟨s.nd.c.s.toArray⟩, .bool s.nd.c.neg, .int .i64 s.nd.c.e] 32))) := Lib.hid ((Below.refl _ _).alloc (Nat.le_refl _) _)
 generalize hks : s.ks = ks at *
 generalize hnd : s.nd = t at *
 have HNDH := Lib.hid hnd
 have HKSH := Lib.hid hks
 clear hks hnd
 obtain ⟨op, many, name, ts, tn, tc⟩ := t
 have HMY := Lib.hid hmany
 clear hmany
 go_enter Tryz.func106, Tryz.ntmps106
 go_wp2_with fail
 go_loopw [6, 7] (fun iv kv wr => ∃ pre post : List (Tr Tm), Hid (ks = pre ++ post) ∧ iv = .int .i64 (at_ + 1 + (flats pre).length : Nat) ∧ kv = .int .i64 (pre.length : Nat) ∧ Hid (Below (w.alloc (.cells #[.int .i64 op, .int .i64 many, .string ⟨name.toArray⟩, .string ⟨ts.toArray⟩, .int .i64 tn, .int .i64 tc.kind, .int .i64 tc.many, .string ⟨tc.name.toArray⟩, .string ⟨tc.s.toArray⟩, .bool tc.neg, .int .i64 tc.e] 32)).heap.size (w.alloc (.cells #[.int .i64 op, .int .i64 many, .string ⟨name.toArray⟩, .string ⟨ts.toArray⟩, .int .i64 tn, .int .i64 tc.kind, .int .i64 tc.many, .string ⟨tc.name.toArray⟩, .string ⟨tc.s.toArray⟩, .bool tc.neg, .int .i64 tc.e] 32)) wr) ∧ Hid (kidsF op (many - pre.length) (pre.map fun u => u.nd.name) post = ans)) (fun _ kv _ => ks.length - (intOf kv).toNat)
 case atStart => exact ⟨[], ks, Lib.hid rfl, by simp, rfl, Lib.hid (Below.refl _ _), Lib.hid (by simpa using HANS.out)⟩
 case round =>
  obtain ⟨pre, post, HP, rfl, rfl, HW1, HKD⟩ := hrel
  have hlen : pre.length + post.length = ks.length := by rw [HP.out]; simp
  obtain ⟨t0, t1, t2, t3, t4, t5, t6, t7, t8, t9, t10⟩ := HT.out.below (by simp) HW1.out
  simp only [Nat.zero_add] at t1 t2 t3 t4 t5 t6 t7 t8 t9 t10
  have HWR : Hid (Below w.heap.size w wr) := Lib.hid (HB.out.trans (HW1.out.mono HB.out.size))
  rw [HMY.out] at t1
  have HPA := Lib.hid (fpart_at HS.out (HKSH.out.trans HP.out))
  generalize hi : at_ + 1 + (flats pre).length = i at *
  have HI := Lib.hid hi; clear hi
  cases post with
  | nil =>
   have HE : Hid (ans = true) := Lib.hid HKD.out.symm
   simp only [List.length_nil, Nat.add_zero] at hlen
   rw [hlen]
   go_wp2_with fail
   go_ret
   exact ⟨ret_bool HE.out.symm, HWR.out⟩
  | cons u rest =>
   have hti : l.drop i = flat u ++ (flats rest ++ r) := by have := HPA.out; rwa [flats_cons, List.append_assoc] at this
   have hoku : okT tmany u := by have := HKS.out; rw [HP.out, okTs_append, okTs_cons] at this; exact this.2.1
   have hil := frpart_lt hti
   have hup := flat_pos u
   rw [HN.out] at hil
   have HNX : Hid (nxtF l.length (l.drop i) 1 i = (i + (flat u).length : Nat)) := Lib.hid (nxtF_at hti hoku)
   have HN2 : Hid (at_ + 1 + (flats (pre ++ [u])).length = i + (flat u).length) := Lib.hid (by rw [flats_append, flats_cons, flats_nil, List.append_nil, List.length_append, ← HI.out]; omega)
   have HP2 : Hid (ks = (pre ++ [u]) ++ rest) := Lib.hid (by rw [HP.out]; simp)
   have HHAD : Hid (∀ W, Below w.heap.size w W → Calls Tryz.prog 147 #[.slice (some ⟨g, o, none⟩) n c, .int .i64 at_, .int .i64 i] W fun e w' => e = .returned (.bool (decide (u.nd.name ∈ pre.map fun x => x.nd.name))) ∧ ∃ m, w' = W.drewN m) := Lib.hid (fun W hW => by
    have := refHad_any _ l at_ i s u pre rest r W (hvH.out.below hW) (by rw [HN.out]; exact hl) HS.out HO.out (HKSH.out.trans HP.out) HI.out.symm
    exact this)
   have HUS := Lib.hid (HSH.out u.nd (List.mem_of_getElem? (fhead_at hti)))
   have HLESS : Hid (letsF ⟨op, many - (pre.length : Nat), pre.map fun u => u.nd.name⟩ u.nd = false → ans = false) := Lib.hid (fun h => HKD.out.symm.trans (kidsF_cons' _ _ _ _ _ h))
   have HMORE : Hid (letsF ⟨op, many - (pre.length : Nat), pre.map fun u => u.nd.name⟩ u.nd = true → kidsF op (many - ((pre ++ [u]).length : Nat)) ((pre ++ [u]).map fun u => u.nd.name) rest = ans) := Lib.hid (fun h => by
    rw [← HKD.out, kidsF_more _ _ _ _ _ h, List.map_append, List.length_append, show many - ((pre.length + [u].length : Nat) : Int) = many - (pre.length : Nat) - 1 by simp; omega]
    rfl)
   obtain ⟨u0, u1, u2, u3, u4, u5, u6, u7, u8, u9, u10⟩ := (HX.out i _ (fhead_at hti)).tm.below hg HWR.out
   simp only [List.length_cons] at hlen
   have hlt1 : ((pre.length : Nat) : Int) < ((ks.length : Nat) : Int) := by omega
   clear hti hoku HPA
   generalize u.nd = x at *
   obtain ⟨xo, xm, xn, xs, xk, xc⟩ := x
   have HXX0 := Lib.hid (tmr_alloc wr ⟨xo, xm, xn, xs, xk, xc⟩)
   have HTX0 := Lib.hid ((HT.out.below (by simp) HW1.out).below (by have := HWR.out.size; have := HW1.out.size; simp at this; omega) ((Below.refl _ wr).alloc (Nat.le_refl _) (.cells #[.int .i64 xo, .int .i64 xm, .string ⟨xn.toArray⟩, .string ⟨xs.toArray⟩, .int .i64 xk, .int .i64 xc.kind, .int .i64 xc.many, .string ⟨xc.name.toArray⟩, .string ⟨xc.s.toArray⟩, .bool xc.neg, .int .i64 xc.e] 32)))
   have HBWX : Hid (Below (w.alloc (.cells #[.int .i64 op, .int .i64 many, .string ⟨name.toArray⟩, .string ⟨ts.toArray⟩, .int .i64 tn, .int .i64 tc.kind, .int .i64 tc.many, .string ⟨tc.name.toArray⟩, .string ⟨tc.s.toArray⟩, .bool tc.neg, .int .i64 tc.e] 32)).heap.size (w.alloc (.cells #[.int .i64 op, .int .i64 many, .string ⟨name.toArray⟩, .string ⟨ts.toArray⟩, .int .i64 tn, .int .i64 tc.kind, .int .i64 tc.many, .string ⟨tc.name.toArray⟩, .string ⟨tc.s.toArray⟩, .bool tc.neg, .int .i64 tc.e] 32)) (wr.alloc (.cells #[.int .i64 xo, .int .i64 xm, .string ⟨xn.toArray⟩, .string ⟨xs.toArray⟩, .int .i64 xk, .int .i64 xc.kind, .int .i64 xc.many, .string ⟨xc.name.toArray⟩, .string ⟨xc.s.toArray⟩, .bool xc.neg, .int .i64 xc.e] 32))) := Lib.hid (HW1.out.alloc HW1.out.size _)
   have HWS : Hid ((w.alloc (.cells #[.int .i64 op, .int .i64 many, .string ⟨name.toArray⟩, .string ⟨ts.toArray⟩, .int .i64 tn, .int .i64 tc.kind, .int .i64 tc.many, .string ⟨tc.name.toArray⟩, .string ⟨tc.s.toArray⟩, .bool tc.neg, .int .i64 tc.e] 32)).heap.size ≤ (wr.alloc (.cells #[.int .i64 xo, .int .i64 xm, .string ⟨xn.toArray⟩, .string ⟨xs.toArray⟩, .int .i64 xk, .int .i64 xc.kind, .int .i64 xc.many, .string ⟨xc.name.toArray⟩, .string ⟨xc.s.toArray⟩, .bool xc.neg, .int .i64 xc.e] 32)).heap.size) := Lib.hid HBWX.out.size
   have HLT : Hid (w.heap.size < (wr.alloc (.cells #[.int .i64 xo, .int .i64 xm, .string ⟨xn.toArray⟩, .string ⟨xs.toArray⟩, .int .i64 xk, .int .i64 xc.kind, .int .i64 xc.many, .string ⟨xc.name.toArray⟩, .string ⟨xc.s.toArray⟩, .bool xc.neg, .int .i64 xc.e] 32)).heap.size) := Lib.hid (Nat.lt_of_lt_of_le (show w.heap.size < (w.alloc (.cells #[.int .i64 op, .int .i64 many, .string ⟨name.toArray⟩, .string ⟨ts.toArray⟩, .int .i64 tn, .int .i64 tc.kind, .int .i64 tc.many, .string ⟨tc.name.toArray⟩, .string ⟨tc.s.toArray⟩, .bool tc.neg, .int .i64 tc.e] 32)).heap.size by simp) HWS.out)
   have HLB : Hid (wr.heap.size < (wr.alloc (.cells #[.int .i64 xo, .int .i64 xm, .string ⟨xn.toArray⟩, .string ⟨xs.toArray⟩, .int .i64 xk, .int .i64 xc.kind, .int .i64 xc.many, .string ⟨xc.name.toArray⟩, .string ⟨xc.s.toArray⟩, .bool xc.neg, .int .i64 xc.e] 32)).heap.size) := Lib.hid (by simp)
   go_wp2_with fail
   generalize wr.heap.size = B at *
   generalize wr.alloc (.cells #[.int .i64 xo, .int .i64 xm, .string ⟨xn.toArray⟩, .string ⟨xs.toArray⟩, .int .i64 xk, .int .i64 xc.kind, .int .i64 xc.many, .string ⟨xc.name.toArray⟩, .string ⟨xc.s.toArray⟩, .bool xc.neg, .int .i64 xc.e] 32) = Wx at *
   have HTX := HTX0
   have HXX := HXX0
   have HMO : Hid (manyOk op many = true) := Lib.hid (by have := HPL.out; unfold plainT at this; simp only [Bool.and_eq_true] at this; exact this.1.1.1.2)
   clear HTX0 HXX0 t0 t1 t2 t3 t4 t5 t6 t7 t8 t9 t10 u0 u1 u2 u3 u4 u5 u6 u7 u8 u9 u10
   by_cases hC : 16 ≤ op ∧ op ≤ 19
   ·have h16 : op ≠ 16 := by
     intro h; have := HMO.out; rw [h] at this; simp [manyOk] at this; have h2 : many = (ks.length : Nat) := HMY.out; omega
    have hbt : isC op = true := by simp [isC]; omega
    have hofc : ofC op = true := by simp [ofC]; omega
    have hne4 : op ≠ 4 := by omega
    have e7 : (op == 7) = false := by simp; omega
    have e4 : (op == 4) = false := by simp; omega
    have e8 : (op == 8) = false := by simp; omega
    have e8n : (op != 8) = true := by simp; omega
    have HN8 : Hid (op ≠ 8) := Lib.hid (by omega)
    cases hbx : isC xo
    ·skip
     clear hC h16
     have HISX : Hid (∀ W, Calls Tryz.prog 72 #[tma ⟨xo, xm, xn, xs, xk, xc⟩] W fun e w' => e = .returned (.bool false) ∧ Below W.heap.size W w') := Lib.hid (fun W => by have := refIs_any ⟨xo, xm, xn, xs, xk, xc⟩ W; rwa [show isC (⟨xo, xm, xn, xs, xk, xc⟩ : Tm).op = false from hbx] at this)
     have HIST : Hid (∀ W, Calls Tryz.prog 72 #[tma ⟨op, many, name, ts, tn, tc⟩] W fun e w' => e = .returned (.bool true) ∧ Below W.heap.size W w') := Lib.hid (fun W => by have := refIs_any ⟨op, many, name, ts, tn, tc⟩ W; rwa [show isC (⟨op, many, name, ts, tn, tc⟩ : Tm).op = true from hbt] at this)
     have HLET0 : Hid (letsF ⟨op, many - (pre.length : Nat), pre.map fun u => u.nd.name⟩ ⟨xo, xm, xn, xs, xk, xc⟩ = false) := Lib.hid (by simp [letsF, hbx, hofc])
     clear hbx hbt hofc
     refine wp_region_held_drew (S := fun W => Tm11 W w.heap.size 0 ⟨op, many, name, ts, tn, tc⟩ ∧ Tm11 W B 0 ⟨xo, xm, xn, xs, xk, xc⟩) (by kernel_rfl) (⟨HTX.out.below HLT.out (Below.refl _ _).drew, HXX.out.below HLB.out (Below.refl _ _).drew⟩) (fun hH => ?_)
     refine rtk 0 (.agg #[.int .i64 xo, .int .i64 xm, .string ⟨xn.toArray⟩, .string ⟨xs.toArray⟩, .int .i64 xk, .int .i64 xc.kind, .int .i64 xc.many, .string ⟨xc.name.toArray⟩, .string ⟨xc.s.toArray⟩, .bool xc.neg, .int .i64 xc.e]) ?_ ?_
     ·intro w' hSw; obtain ⟨_, _, _, _, _, _, _, _, _, _, _, _, _, _, _, _, _, _, _, _, _, _⟩ := t22 hSw; go_simp
     try simp only [ls1, ls0]
     refine rtk 2 (.agg #[.int .i64 op, .int .i64 many, .string ⟨name.toArray⟩, .string ⟨ts.toArray⟩, .int .i64 tn, .int .i64 tc.kind, .int .i64 tc.many, .string ⟨tc.name.toArray⟩, .string ⟨tc.s.toArray⟩, .bool tc.neg, .int .i64 tc.e]) ?_ ?_
     ·intro w' hSw; obtain ⟨_, _, _, _, _, _, _, _, _, _, _, _, _, _, _, _, _, _, _, _, _, _⟩ := t22 hSw; go_simp
     try simp only [ls1, ls0]
     refine wpAnyH_ready (rs := [1]) (by kernel_rfl) (by simp) ?_
     refine AllReadyH.cons rfl (fun K1 hK1 => ?_) AllReadyH.nil
     go_simp
     go_at_call 72
     refine (HISX.out _).mono ?_
     rintro e w2 ⟨rfl, hb2⟩
     go_wp2_with fail
     refine hK1.out _ _ (⟨hH.1.below HLT.out hb2, hH.2.below HLB.out hb2⟩) (fun hHeld1 => ?_)
     clear hK1 K1
     try simp only [ls1, ls0]
     refine wpAnyH_ready (rs := [3]) (by kernel_rfl) (by simp) ?_
     refine AllReadyH.cons rfl (fun K3 hK3 => ?_) AllReadyH.nil
     go_simp
     go_at_call 72
     refine (HIST.out _).mono ?_
     rintro e w3 ⟨rfl, hb3⟩
     go_wp2_with fail
     refine hK3.out _ _ (⟨hHeld1.1.below (Nat.lt_of_lt_of_le HLT.out hb2.size) hb3, hHeld1.2.below (Nat.lt_of_lt_of_le HLB.out hb2.size) hb3⟩) (fun hHeld3 => ?_)
     clear hK3 K3
     try simp only [ls1, ls0]
     refine rtk 4 (.bool true) ?_ ?_
     ·intro w' hSw; clear hSw; go_simp
     try simp only [ls1, ls0]
     refine rtn 5 ?_
     try simp only [ls1, ls0]
     refine rtn 6 ?_
     try simp only [ls1, ls0]
     refine rtn 7 ?_
     try simp only [ls1, ls0]
     refine rtk 8 (.bool true) ?_ ?_
     ·intro w' hSw; clear hSw; go_simp
     try simp only [ls1, ls0]
     refine rtk 9 (.bool true) ?_ ?_
     ·intro w' hSw; clear hSw; go_simp
     try simp only [ls1, ls0]
     refine rtk 10 (.bool true) ?_ ?_
     ·intro w' hSw; clear hSw; go_simp
     try simp only [ls1, ls0]
     refine rtn 11 ?_
     try simp only [ls1, ls0]
     refine rtn 12 ?_
     try simp only [ls1, ls0]
     refine rtn 13 ?_
     try simp only [ls1, ls0]
     refine rtn 14 ?_
     try simp only [ls1, ls0]
     refine rtn 15 ?_
     try simp only [ls1, ls0]
     refine rtn 16 ?_
     try simp only [ls1, ls0]
     refine rtn 17 ?_
     try simp only [ls1, ls0]
     refine rtn 18 ?_
     try simp only [ls1, ls0]
     refine rtn 19 ?_
     try simp only [ls1, ls0]
     refine rtn 20 ?_
     try simp only [ls1, ls0]
     refine rtn 21 ?_
     try simp only [ls1, ls0]
     refine rtn 22 ?_
     try simp only [ls1, ls0]
     refine rtk 23 (.bool true) ?_ ?_
     ·intro w' hSw; clear hSw; go_simp
     try simp only [ls1, ls0]
     refine wpAnyH_done (by kernel_rfl) ?_ _
     have HBW3 := Lib.hid (HBWX.out.trans (((Below.refl _ Wx).drew.trans (hb2.trans (hb3.mono hb2.size))).mono HWS.out))
     obtain ⟨_, _, _, _, _, _, _, _, _, _, _, _, _, _, _, _, _, _, _, _, _, _⟩ := t22 hHeld3
     have hc1 : Below w.heap.size w w3 := HB.out.trans (HBW3.out.mono HB.out.size)
     have HC3 := Lib.hid hc1
     clear hb2 hb3 hH hHeld1 hc1
     have HF := Lib.hid (HLESS.out HLET0.out)
     go_wp2_with fail
     go_ret
     exact ⟨ret_bool HF.out.symm, HC3.out⟩
    ·skip
     clear hC h16
     have HISX : Hid (∀ W, Calls Tryz.prog 72 #[tma ⟨xo, xm, xn, xs, xk, xc⟩] W fun e w' => e = .returned (.bool true) ∧ Below W.heap.size W w') := Lib.hid (fun W => by have := refIs_any ⟨xo, xm, xn, xs, xk, xc⟩ W; rwa [show isC (⟨xo, xm, xn, xs, xk, xc⟩ : Tm).op = true from hbx] at this)
     have HIST : Hid (∀ W, Calls Tryz.prog 72 #[tma ⟨op, many, name, ts, tn, tc⟩] W fun e w' => e = .returned (.bool true) ∧ Below W.heap.size W w') := Lib.hid (fun W => by have := refIs_any ⟨op, many, name, ts, tn, tc⟩ W; rwa [show isC (⟨op, many, name, ts, tn, tc⟩ : Tm).op = true from hbt] at this)
     have HLET : Hid (letsF ⟨op, many - (pre.length : Nat), pre.map fun u => u.nd.name⟩ ⟨xo, xm, xn, xs, xk, xc⟩ = letsN ⟨op, many - (pre.length : Nat), pre.map fun u => u.nd.name⟩ xn) := Lib.hid (by simp [letsF, hbx, hofc, hne4])
     clear hbx hbt hofc
     refine wp_region_held_drew (S := fun W => Tm11 W w.heap.size 0 ⟨op, many, name, ts, tn, tc⟩ ∧ Tm11 W B 0 ⟨xo, xm, xn, xs, xk, xc⟩) (by kernel_rfl) (⟨HTX.out.below HLT.out (Below.refl _ _).drew, HXX.out.below HLB.out (Below.refl _ _).drew⟩) (fun hH => ?_)
     refine rtk 0 (.agg #[.int .i64 xo, .int .i64 xm, .string ⟨xn.toArray⟩, .string ⟨xs.toArray⟩, .int .i64 xk, .int .i64 xc.kind, .int .i64 xc.many, .string ⟨xc.name.toArray⟩, .string ⟨xc.s.toArray⟩, .bool xc.neg, .int .i64 xc.e]) ?_ ?_
     ·intro w' hSw; obtain ⟨_, _, _, _, _, _, _, _, _, _, _, _, _, _, _, _, _, _, _, _, _, _⟩ := t22 hSw; go_simp
     try simp only [ls1, ls0]
     refine rtk 2 (.agg #[.int .i64 op, .int .i64 many, .string ⟨name.toArray⟩, .string ⟨ts.toArray⟩, .int .i64 tn, .int .i64 tc.kind, .int .i64 tc.many, .string ⟨tc.name.toArray⟩, .string ⟨tc.s.toArray⟩, .bool tc.neg, .int .i64 tc.e]) ?_ ?_
     ·intro w' hSw; obtain ⟨_, _, _, _, _, _, _, _, _, _, _, _, _, _, _, _, _, _, _, _, _, _⟩ := t22 hSw; go_simp
     try simp only [ls1, ls0]
     refine wpAnyH_ready (rs := [1]) (by kernel_rfl) (by simp) ?_
     refine AllReadyH.cons rfl (fun K1 hK1 => ?_) AllReadyH.nil
     go_simp
     go_at_call 72
     refine (HISX.out _).mono ?_
     rintro e w2 ⟨rfl, hb2⟩
     go_wp2_with fail
     refine hK1.out _ _ (⟨hH.1.below HLT.out hb2, hH.2.below HLB.out hb2⟩) (fun hHeld1 => ?_)
     clear hK1 K1
     try simp only [ls1, ls0]
     refine wpAnyH_ready (rs := [3]) (by kernel_rfl) (by simp) ?_
     refine AllReadyH.cons rfl (fun K3 hK3 => ?_) AllReadyH.nil
     go_simp
     go_at_call 72
     refine (HIST.out _).mono ?_
     rintro e w3 ⟨rfl, hb3⟩
     go_wp2_with fail
     refine hK3.out _ _ (⟨hHeld1.1.below (Nat.lt_of_lt_of_le HLT.out hb2.size) hb3, hHeld1.2.below (Nat.lt_of_lt_of_le HLB.out hb2.size) hb3⟩) (fun hHeld3 => ?_)
     clear hK3 K3
     try simp only [ls1, ls0]
     refine rtk 4 (.bool true) ?_ ?_
     ·intro w' hSw; clear hSw; go_simp
     try simp only [ls1, ls0]
     refine rtn 5 ?_
     try simp only [ls1, ls0]
     refine rtn 6 ?_
     try simp only [ls1, ls0]
     refine rtn 7 ?_
     try simp only [ls1, ls0]
     refine rtk 8 (.bool true) ?_ ?_
     ·intro w' hSw; clear hSw; go_simp
     try simp only [ls1, ls0]
     refine rtk 9 (.bool false) ?_ ?_
     ·intro w' hSw; clear hSw; go_simp
     try simp only [ls1, ls0]
     refine rtk 10 (.bool false) ?_ ?_
     ·intro w' hSw; clear hSw; go_simp
     try simp only [ls1, ls0]
     refine rtk 11 (.pointer (some ⟨w.heap.size, 0, none⟩)) ?_ ?_
     ·intro w' hSw; clear hSw; go_simp
     try simp only [ls1, ls0]
     refine rtk 12 (.int .i64 op) ?_ ?_
     ·intro w' hSw; obtain ⟨_, _, _, _, _, _, _, _, _, _, _, _, _, _, _, _, _, _, _, _, _, _⟩ := t22 hSw; go_simp
     try simp only [ls1, ls0]
     refine rtk 13 (.bool false) ?_ ?_
     ·intro w' hSw; clear hSw; go_simp
     try simp only [ls1, ls0]
     refine rtk 14 (.bool false) ?_ ?_
     ·intro w' hSw; clear hSw; go_simp
     try simp only [ls1, ls0]
     refine rtn 15 ?_
     try simp only [ls1, ls0]
     refine rtn 16 ?_
     try simp only [ls1, ls0]
     refine rtk 17 (.bool false) ?_ ?_
     ·intro w' hSw; clear hSw; go_simp
     try simp only [ls1, ls0]
     refine rtk 18 (.bool false) ?_ ?_
     ·intro w' hSw; clear hSw; go_simp
     try simp only [ls1, ls0]
     refine rtn 19 ?_
     try simp only [ls1, ls0]
     refine rtn 20 ?_
     try simp only [ls1, ls0]
     refine rtn 21 ?_
     try simp only [ls1, ls0]
     refine rtk 22 (.bool false) ?_ ?_
     ·intro w' hSw; clear hSw; go_simp
     try simp only [ls1, ls0]
     refine rtk 23 (.bool false) ?_ ?_
     ·intro w' hSw; clear hSw; go_simp
     try simp only [ls1, ls0]
     refine wpAnyH_done (by kernel_rfl) ?_ _
     have HBW3 := Lib.hid (HBWX.out.trans (((Below.refl _ Wx).drew.trans (hb2.trans (hb3.mono hb2.size))).mono HWS.out))
     obtain ⟨_, _, _, _, _, _, _, _, _, _, _, _, _, _, _, _, _, _, _, _, _, _⟩ := t22 hHeld3
     have hc1 : Below w.heap.size w w3 := HB.out.trans (HBW3.out.mono HB.out.size)
     have HC3 := Lib.hid hc1
     clear hb2 hb3 hH hHeld1 hc1
     by_cases hxn : xn = []
     ·subst hxn
      have HM := Lib.hid (HMORE.out (HLET.out.trans (by simp [letsN, HN8.out])))
      go_wp2_with (go_at_call 60; refine (refNextT_any _ l i _ (hvH.out.below HC3.out) (by rw [HN.out]; exact hl) (by rw [HN.out]; omega)).mono ?_; rintro e w' ⟨rfl, rfl⟩; rw [HNX.out])
      go_roundw
      case rel => exact ⟨pre ++ [u], rest, HP2, by rw [HN2.out, Int.natCast_add], by simp, HBW3, HM⟩
      case measure => simp [intOf]; omega
     ·have HF : Hid (ans = false) := Lib.hid (HLESS.out (HLET.out.trans (by simp [letsN, HN8.out, hxn])))
      have hx1 : (xn == []) = false := by simpa using hxn
      have hx2 : (xn != []) = true := by simp [hxn]
      go_wp2_with fail
      go_ret
      exact ⟨ret_bool HF.out.symm, HC3.out⟩
   ·have hbt : isC op = false := by simp [isC]; omega
    by_cases h7 : op = 7
    ·have hofc : ofC op = true := by simp [ofC, h7]
     have hne4 : op ≠ 4 := by omega
     have e7 : (op == 7) = true := by simp; omega
     have e4 : (op == 4) = false := by simp; omega
     have e8 : (op == 8) = false := by simp; omega
     have e8n : (op != 8) = true := by simp; omega
     have HN8 : Hid (op ≠ 8) := Lib.hid (by omega)
     cases hbx : isC xo
     ·skip
      clear hC h7
      have HISX : Hid (∀ W, Calls Tryz.prog 72 #[tma ⟨xo, xm, xn, xs, xk, xc⟩] W fun e w' => e = .returned (.bool false) ∧ Below W.heap.size W w') := Lib.hid (fun W => by have := refIs_any ⟨xo, xm, xn, xs, xk, xc⟩ W; rwa [show isC (⟨xo, xm, xn, xs, xk, xc⟩ : Tm).op = false from hbx] at this)
      have HIST : Hid (∀ W, Calls Tryz.prog 72 #[tma ⟨op, many, name, ts, tn, tc⟩] W fun e w' => e = .returned (.bool false) ∧ Below W.heap.size W w') := Lib.hid (fun W => by have := refIs_any ⟨op, many, name, ts, tn, tc⟩ W; rwa [show isC (⟨op, many, name, ts, tn, tc⟩ : Tm).op = false from hbt] at this)
      have HLET0 : Hid (letsF ⟨op, many - (pre.length : Nat), pre.map fun u => u.nd.name⟩ ⟨xo, xm, xn, xs, xk, xc⟩ = false) := Lib.hid (by simp [letsF, hbx, hofc])
      clear hbx hbt hofc
      refine wp_region_held_drew (S := fun W => Tm11 W w.heap.size 0 ⟨op, many, name, ts, tn, tc⟩ ∧ Tm11 W B 0 ⟨xo, xm, xn, xs, xk, xc⟩) (by kernel_rfl) (⟨HTX.out.below HLT.out (Below.refl _ _).drew, HXX.out.below HLB.out (Below.refl _ _).drew⟩) (fun hH => ?_)
      refine rtk 0 (.agg #[.int .i64 xo, .int .i64 xm, .string ⟨xn.toArray⟩, .string ⟨xs.toArray⟩, .int .i64 xk, .int .i64 xc.kind, .int .i64 xc.many, .string ⟨xc.name.toArray⟩, .string ⟨xc.s.toArray⟩, .bool xc.neg, .int .i64 xc.e]) ?_ ?_
      ·intro w' hSw; obtain ⟨_, _, _, _, _, _, _, _, _, _, _, _, _, _, _, _, _, _, _, _, _, _⟩ := t22 hSw; go_simp
      try simp only [ls1, ls0]
      refine rtk 2 (.agg #[.int .i64 op, .int .i64 many, .string ⟨name.toArray⟩, .string ⟨ts.toArray⟩, .int .i64 tn, .int .i64 tc.kind, .int .i64 tc.many, .string ⟨tc.name.toArray⟩, .string ⟨tc.s.toArray⟩, .bool tc.neg, .int .i64 tc.e]) ?_ ?_
      ·intro w' hSw; obtain ⟨_, _, _, _, _, _, _, _, _, _, _, _, _, _, _, _, _, _, _, _, _, _⟩ := t22 hSw; go_simp
      try simp only [ls1, ls0]
      refine wpAnyH_ready (rs := [1]) (by kernel_rfl) (by simp) ?_
      refine AllReadyH.cons rfl (fun K1 hK1 => ?_) AllReadyH.nil
      go_simp
      go_at_call 72
      refine (HISX.out _).mono ?_
      rintro e w2 ⟨rfl, hb2⟩
      go_wp2_with fail
      refine hK1.out _ _ (⟨hH.1.below HLT.out hb2, hH.2.below HLB.out hb2⟩) (fun hHeld1 => ?_)
      clear hK1 K1
      try simp only [ls1, ls0]
      refine wpAnyH_ready (rs := [3]) (by kernel_rfl) (by simp) ?_
      refine AllReadyH.cons rfl (fun K3 hK3 => ?_) AllReadyH.nil
      go_simp
      go_at_call 72
      refine (HIST.out _).mono ?_
      rintro e w3 ⟨rfl, hb3⟩
      go_wp2_with fail
      refine hK3.out _ _ (⟨hHeld1.1.below (Nat.lt_of_lt_of_le HLT.out hb2.size) hb3, hHeld1.2.below (Nat.lt_of_lt_of_le HLB.out hb2.size) hb3⟩) (fun hHeld3 => ?_)
      clear hK3 K3
      try simp only [ls1, ls0]
      refine rtk 4 (.bool false) ?_ ?_
      ·intro w' hSw; clear hSw; go_simp
      try simp only [ls1, ls0]
      refine rtk 5 (.pointer (some ⟨w.heap.size, 0, none⟩)) ?_ ?_
      ·intro w' hSw; clear hSw; go_simp
      try simp only [ls1, ls0]
      refine rtk 6 (.int .i64 op) ?_ ?_
      ·intro w' hSw; obtain ⟨_, _, _, _, _, _, _, _, _, _, _, _, _, _, _, _, _, _, _, _, _, _⟩ := t22 hSw; go_simp
      try simp only [ls1, ls0]
      refine rtk 7 (.bool true) ?_ ?_
      ·intro w' hSw; clear hSw; go_simp
      try simp only [ls1, ls0]
      refine rtk 8 (.bool true) ?_ ?_
      ·intro w' hSw; clear hSw; go_simp
      try simp only [ls1, ls0]
      refine rtk 9 (.bool true) ?_ ?_
      ·intro w' hSw; clear hSw; go_simp
      try simp only [ls1, ls0]
      refine rtk 10 (.bool true) ?_ ?_
      ·intro w' hSw; clear hSw; go_simp
      try simp only [ls1, ls0]
      refine rtn 11 ?_
      try simp only [ls1, ls0]
      refine rtn 12 ?_
      try simp only [ls1, ls0]
      refine rtn 13 ?_
      try simp only [ls1, ls0]
      refine rtn 14 ?_
      try simp only [ls1, ls0]
      refine rtn 15 ?_
      try simp only [ls1, ls0]
      refine rtn 16 ?_
      try simp only [ls1, ls0]
      refine rtn 17 ?_
      try simp only [ls1, ls0]
      refine rtn 18 ?_
      try simp only [ls1, ls0]
      refine rtn 19 ?_
      try simp only [ls1, ls0]
      refine rtn 20 ?_
      try simp only [ls1, ls0]
      refine rtn 21 ?_
      try simp only [ls1, ls0]
      refine rtn 22 ?_
      try simp only [ls1, ls0]
      refine rtk 23 (.bool true) ?_ ?_
      ·intro w' hSw; clear hSw; go_simp
      try simp only [ls1, ls0]
      refine wpAnyH_done (by kernel_rfl) ?_ _
      have HBW3 := Lib.hid (HBWX.out.trans (((Below.refl _ Wx).drew.trans (hb2.trans (hb3.mono hb2.size))).mono HWS.out))
      obtain ⟨_, _, _, _, _, _, _, _, _, _, _, _, _, _, _, _, _, _, _, _, _, _⟩ := t22 hHeld3
      have hc1 : Below w.heap.size w w3 := HB.out.trans (HBW3.out.mono HB.out.size)
      have HC3 := Lib.hid hc1
      clear hb2 hb3 hH hHeld1 hc1
      have HF := Lib.hid (HLESS.out HLET0.out)
      go_wp2_with fail
      go_ret
      exact ⟨ret_bool HF.out.symm, HC3.out⟩
     ·skip
      clear hC h7
      have HISX : Hid (∀ W, Calls Tryz.prog 72 #[tma ⟨xo, xm, xn, xs, xk, xc⟩] W fun e w' => e = .returned (.bool true) ∧ Below W.heap.size W w') := Lib.hid (fun W => by have := refIs_any ⟨xo, xm, xn, xs, xk, xc⟩ W; rwa [show isC (⟨xo, xm, xn, xs, xk, xc⟩ : Tm).op = true from hbx] at this)
      have HIST : Hid (∀ W, Calls Tryz.prog 72 #[tma ⟨op, many, name, ts, tn, tc⟩] W fun e w' => e = .returned (.bool false) ∧ Below W.heap.size W w') := Lib.hid (fun W => by have := refIs_any ⟨op, many, name, ts, tn, tc⟩ W; rwa [show isC (⟨op, many, name, ts, tn, tc⟩ : Tm).op = false from hbt] at this)
      have HLET : Hid (letsF ⟨op, many - (pre.length : Nat), pre.map fun u => u.nd.name⟩ ⟨xo, xm, xn, xs, xk, xc⟩ = letsN ⟨op, many - (pre.length : Nat), pre.map fun u => u.nd.name⟩ xn) := Lib.hid (by simp [letsF, hbx, hofc, hne4])
      clear hbx hbt hofc
      refine wp_region_held_drew (S := fun W => Tm11 W w.heap.size 0 ⟨op, many, name, ts, tn, tc⟩ ∧ Tm11 W B 0 ⟨xo, xm, xn, xs, xk, xc⟩) (by kernel_rfl) (⟨HTX.out.below HLT.out (Below.refl _ _).drew, HXX.out.below HLB.out (Below.refl _ _).drew⟩) (fun hH => ?_)
      refine rtk 0 (.agg #[.int .i64 xo, .int .i64 xm, .string ⟨xn.toArray⟩, .string ⟨xs.toArray⟩, .int .i64 xk, .int .i64 xc.kind, .int .i64 xc.many, .string ⟨xc.name.toArray⟩, .string ⟨xc.s.toArray⟩, .bool xc.neg, .int .i64 xc.e]) ?_ ?_
      ·intro w' hSw; obtain ⟨_, _, _, _, _, _, _, _, _, _, _, _, _, _, _, _, _, _, _, _, _, _⟩ := t22 hSw; go_simp
      try simp only [ls1, ls0]
      refine rtk 2 (.agg #[.int .i64 op, .int .i64 many, .string ⟨name.toArray⟩, .string ⟨ts.toArray⟩, .int .i64 tn, .int .i64 tc.kind, .int .i64 tc.many, .string ⟨tc.name.toArray⟩, .string ⟨tc.s.toArray⟩, .bool tc.neg, .int .i64 tc.e]) ?_ ?_
      ·intro w' hSw; obtain ⟨_, _, _, _, _, _, _, _, _, _, _, _, _, _, _, _, _, _, _, _, _, _⟩ := t22 hSw; go_simp
      try simp only [ls1, ls0]
      refine wpAnyH_ready (rs := [1]) (by kernel_rfl) (by simp) ?_
      refine AllReadyH.cons rfl (fun K1 hK1 => ?_) AllReadyH.nil
      go_simp
      go_at_call 72
      refine (HISX.out _).mono ?_
      rintro e w2 ⟨rfl, hb2⟩
      go_wp2_with fail
      refine hK1.out _ _ (⟨hH.1.below HLT.out hb2, hH.2.below HLB.out hb2⟩) (fun hHeld1 => ?_)
      clear hK1 K1
      try simp only [ls1, ls0]
      refine wpAnyH_ready (rs := [3]) (by kernel_rfl) (by simp) ?_
      refine AllReadyH.cons rfl (fun K3 hK3 => ?_) AllReadyH.nil
      go_simp
      go_at_call 72
      refine (HIST.out _).mono ?_
      rintro e w3 ⟨rfl, hb3⟩
      go_wp2_with fail
      refine hK3.out _ _ (⟨hHeld1.1.below (Nat.lt_of_lt_of_le HLT.out hb2.size) hb3, hHeld1.2.below (Nat.lt_of_lt_of_le HLB.out hb2.size) hb3⟩) (fun hHeld3 => ?_)
      clear hK3 K3
      try simp only [ls1, ls0]
      refine rtk 4 (.bool false) ?_ ?_
      ·intro w' hSw; clear hSw; go_simp
      try simp only [ls1, ls0]
      refine rtk 5 (.pointer (some ⟨w.heap.size, 0, none⟩)) ?_ ?_
      ·intro w' hSw; clear hSw; go_simp
      try simp only [ls1, ls0]
      refine rtk 6 (.int .i64 op) ?_ ?_
      ·intro w' hSw; obtain ⟨_, _, _, _, _, _, _, _, _, _, _, _, _, _, _, _, _, _, _, _, _, _⟩ := t22 hSw; go_simp
      try simp only [ls1, ls0]
      refine rtk 7 (.bool true) ?_ ?_
      ·intro w' hSw; clear hSw; go_simp
      try simp only [ls1, ls0]
      refine rtk 8 (.bool true) ?_ ?_
      ·intro w' hSw; clear hSw; go_simp
      try simp only [ls1, ls0]
      refine rtk 9 (.bool false) ?_ ?_
      ·intro w' hSw; clear hSw; go_simp
      try simp only [ls1, ls0]
      refine rtk 10 (.bool false) ?_ ?_
      ·intro w' hSw; clear hSw; go_simp
      try simp only [ls1, ls0]
      refine rtk 11 (.pointer (some ⟨w.heap.size, 0, none⟩)) ?_ ?_
      ·intro w' hSw; clear hSw; go_simp
      try simp only [ls1, ls0]
      refine rtk 12 (.int .i64 op) ?_ ?_
      ·intro w' hSw; obtain ⟨_, _, _, _, _, _, _, _, _, _, _, _, _, _, _, _, _, _, _, _, _, _⟩ := t22 hSw; go_simp
      try simp only [ls1, ls0]
      refine rtk 13 (.bool false) ?_ ?_
      ·intro w' hSw; clear hSw; go_simp
      try simp only [ls1, ls0]
      refine rtk 14 (.bool false) ?_ ?_
      ·intro w' hSw; clear hSw; go_simp
      try simp only [ls1, ls0]
      refine rtn 15 ?_
      try simp only [ls1, ls0]
      refine rtn 16 ?_
      try simp only [ls1, ls0]
      refine rtk 17 (.bool false) ?_ ?_
      ·intro w' hSw; clear hSw; go_simp
      try simp only [ls1, ls0]
      refine rtk 18 (.bool false) ?_ ?_
      ·intro w' hSw; clear hSw; go_simp
      try simp only [ls1, ls0]
      refine rtn 19 ?_
      try simp only [ls1, ls0]
      refine rtn 20 ?_
      try simp only [ls1, ls0]
      refine rtn 21 ?_
      try simp only [ls1, ls0]
      refine rtk 22 (.bool false) ?_ ?_
      ·intro w' hSw; clear hSw; go_simp
      try simp only [ls1, ls0]
      refine rtk 23 (.bool false) ?_ ?_
      ·intro w' hSw; clear hSw; go_simp
      try simp only [ls1, ls0]
      refine wpAnyH_done (by kernel_rfl) ?_ _
      have HBW3 := Lib.hid (HBWX.out.trans (((Below.refl _ Wx).drew.trans (hb2.trans (hb3.mono hb2.size))).mono HWS.out))
      obtain ⟨_, _, _, _, _, _, _, _, _, _, _, _, _, _, _, _, _, _, _, _, _, _⟩ := t22 hHeld3
      have hc1 : Below w.heap.size w w3 := HB.out.trans (HBW3.out.mono HB.out.size)
      have HC3 := Lib.hid hc1
      clear hb2 hb3 hH hHeld1 hc1
      by_cases hxn : xn = []
      ·subst hxn
       have HM := Lib.hid (HMORE.out (HLET.out.trans (by simp [letsN, HN8.out])))
       go_wp2_with (go_at_call 60; refine (refNextT_any _ l i _ (hvH.out.below HC3.out) (by rw [HN.out]; exact hl) (by rw [HN.out]; omega)).mono ?_; rintro e w' ⟨rfl, rfl⟩; rw [HNX.out])
       go_roundw
       case rel => exact ⟨pre ++ [u], rest, HP2, by rw [HN2.out, Int.natCast_add], by simp, HBW3, HM⟩
       case measure => simp [intOf]; omega
      ·have HF : Hid (ans = false) := Lib.hid (HLESS.out (HLET.out.trans (by simp [letsN, HN8.out, hxn])))
       have hx1 : (xn == []) = false := by simpa using hxn
       have hx2 : (xn != []) = true := by simp [hxn]
       go_wp2_with fail
       go_ret
       exact ⟨ret_bool HF.out.symm, HC3.out⟩
    ·by_cases h4 : op = 4
     ·have hofc : ofC op = false := by simp [ofC, h4]
      have hm2 : many = 2 := by have := HMO.out; rw [h4] at this; simpa [manyOk] using this
      have e7 : (op == 7) = false := by simp; omega
      have e4 : (op == 4) = true := by simp; omega
      have e8 : (op == 8) = false := by simp; omega
      have e8n : (op != 8) = true := by simp; omega
      have HN8 : Hid (op ≠ 8) := Lib.hid (by omega)
      cases hbx : isC xo
      ·by_cases hk0 : pre.length = 0
       ·by_cases hx4 : xo = 4
        ·have ex4 : (xo == 4) = true := by simpa using hx4
         have ek0 : (((pre.length : Nat) : Int) == 0) = true := by simp [hk0]
         have HK0 := Lib.hid hk0
         have HX4 := Lib.hid hx4
         have HM2 := Lib.hid hm2
         have H4 := Lib.hid h4
         clear hC h7 h4 hm2 hk0 hx4
         have HISX : Hid (∀ W, Calls Tryz.prog 72 #[tma ⟨xo, xm, xn, xs, xk, xc⟩] W fun e w' => e = .returned (.bool false) ∧ Below W.heap.size W w') := Lib.hid (fun W => by have := refIs_any ⟨xo, xm, xn, xs, xk, xc⟩ W; rwa [show isC (⟨xo, xm, xn, xs, xk, xc⟩ : Tm).op = false from hbx] at this)
         have HIST : Hid (∀ W, Calls Tryz.prog 72 #[tma ⟨op, many, name, ts, tn, tc⟩] W fun e w' => e = .returned (.bool false) ∧ Below W.heap.size W w') := Lib.hid (fun W => by have := refIs_any ⟨op, many, name, ts, tn, tc⟩ W; rwa [show isC (⟨op, many, name, ts, tn, tc⟩ : Tm).op = false from hbt] at this)
         have HLET0 : Hid (letsF ⟨op, many - (pre.length : Nat), pre.map fun u => u.nd.name⟩ ⟨xo, xm, xn, xs, xk, xc⟩ = false) := Lib.hid (by simp [letsF, H4.out, HM2.out, HK0.out, HX4.out])
         clear hbx hbt hofc
         refine wp_region_held_drew (S := fun W => Tm11 W w.heap.size 0 ⟨op, many, name, ts, tn, tc⟩ ∧ Tm11 W B 0 ⟨xo, xm, xn, xs, xk, xc⟩) (by kernel_rfl) (⟨HTX.out.below HLT.out (Below.refl _ _).drew, HXX.out.below HLB.out (Below.refl _ _).drew⟩) (fun hH => ?_)
         refine rtk 0 (.agg #[.int .i64 xo, .int .i64 xm, .string ⟨xn.toArray⟩, .string ⟨xs.toArray⟩, .int .i64 xk, .int .i64 xc.kind, .int .i64 xc.many, .string ⟨xc.name.toArray⟩, .string ⟨xc.s.toArray⟩, .bool xc.neg, .int .i64 xc.e]) ?_ ?_
         ·intro w' hSw; obtain ⟨_, _, _, _, _, _, _, _, _, _, _, _, _, _, _, _, _, _, _, _, _, _⟩ := t22 hSw; go_simp
         try simp only [ls1, ls0]
         refine rtk 2 (.agg #[.int .i64 op, .int .i64 many, .string ⟨name.toArray⟩, .string ⟨ts.toArray⟩, .int .i64 tn, .int .i64 tc.kind, .int .i64 tc.many, .string ⟨tc.name.toArray⟩, .string ⟨tc.s.toArray⟩, .bool tc.neg, .int .i64 tc.e]) ?_ ?_
         ·intro w' hSw; obtain ⟨_, _, _, _, _, _, _, _, _, _, _, _, _, _, _, _, _, _, _, _, _, _⟩ := t22 hSw; go_simp
         try simp only [ls1, ls0]
         refine wpAnyH_ready (rs := [1]) (by kernel_rfl) (by simp) ?_
         refine AllReadyH.cons rfl (fun K1 hK1 => ?_) AllReadyH.nil
         go_simp
         go_at_call 72
         refine (HISX.out _).mono ?_
         rintro e w2 ⟨rfl, hb2⟩
         go_wp2_with fail
         refine hK1.out _ _ (⟨hH.1.below HLT.out hb2, hH.2.below HLB.out hb2⟩) (fun hHeld1 => ?_)
         clear hK1 K1
         try simp only [ls1, ls0]
         refine wpAnyH_ready (rs := [3]) (by kernel_rfl) (by simp) ?_
         refine AllReadyH.cons rfl (fun K3 hK3 => ?_) AllReadyH.nil
         go_simp
         go_at_call 72
         refine (HIST.out _).mono ?_
         rintro e w3 ⟨rfl, hb3⟩
         go_wp2_with fail
         refine hK3.out _ _ (⟨hHeld1.1.below (Nat.lt_of_lt_of_le HLT.out hb2.size) hb3, hHeld1.2.below (Nat.lt_of_lt_of_le HLB.out hb2.size) hb3⟩) (fun hHeld3 => ?_)
         clear hK3 K3
         try simp only [ls1, ls0]
         refine rtk 4 (.bool false) ?_ ?_
         ·intro w' hSw; clear hSw; go_simp
         try simp only [ls1, ls0]
         refine rtk 5 (.pointer (some ⟨w.heap.size, 0, none⟩)) ?_ ?_
         ·intro w' hSw; clear hSw; go_simp
         try simp only [ls1, ls0]
         refine rtk 6 (.int .i64 op) ?_ ?_
         ·intro w' hSw; obtain ⟨_, _, _, _, _, _, _, _, _, _, _, _, _, _, _, _, _, _, _, _, _, _⟩ := t22 hSw; go_simp
         try simp only [ls1, ls0]
         refine rtk 7 (.bool false) ?_ ?_
         ·intro w' hSw; clear hSw; go_simp
         try simp only [ls1, ls0]
         refine rtk 8 (.bool false) ?_ ?_
         ·intro w' hSw; clear hSw; go_simp
         try simp only [ls1, ls0]
         refine rtk 9 (.bool false) ?_ ?_
         ·intro w' hSw; clear hSw; go_simp
         try simp only [ls1, ls0]
         refine rtk 10 (.bool false) ?_ ?_
         ·intro w' hSw; clear hSw; go_simp
         try simp only [ls1, ls0]
         refine rtk 11 (.pointer (some ⟨w.heap.size, 0, none⟩)) ?_ ?_
         ·intro w' hSw; clear hSw; go_simp
         try simp only [ls1, ls0]
         refine rtk 12 (.int .i64 op) ?_ ?_
         ·intro w' hSw; obtain ⟨_, _, _, _, _, _, _, _, _, _, _, _, _, _, _, _, _, _, _, _, _, _⟩ := t22 hSw; go_simp
         try simp only [ls1, ls0]
         refine rtk 13 (.bool true) ?_ ?_
         ·intro w' hSw; clear hSw; go_simp
         try simp only [ls1, ls0]
         refine rtk 14 (.bool true) ?_ ?_
         ·intro w' hSw; clear hSw; go_simp
         try simp only [ls1, ls0]
         refine rtk 15 (.int .i64 (pre.length : Nat)) ?_ ?_
         ·intro w' hSw; clear hSw; go_simp
         try simp only [ls1, ls0]
         refine rtk 16 (.bool true) ?_ ?_
         ·intro w' hSw; clear hSw; go_simp
         try simp only [ls1, ls0]
         refine rtk 17 (.bool true) ?_ ?_
         ·intro w' hSw; clear hSw; go_simp
         try simp only [ls1, ls0]
         refine rtk 18 (.bool true) ?_ ?_
         ·intro w' hSw; clear hSw; go_simp
         try simp only [ls1, ls0]
         refine rtk 19 (.pointer (some ⟨B, 0, none⟩)) ?_ ?_
         ·intro w' hSw; clear hSw; go_simp
         try simp only [ls1, ls0]
         refine rtk 20 (.int .i64 xo) ?_ ?_
         ·intro w' hSw; obtain ⟨_, _, _, _, _, _, _, _, _, _, _, _, _, _, _, _, _, _, _, _, _, _⟩ := t22 hSw; go_simp
         try simp only [ls1, ls0]
         refine rtk 21 (.bool true) ?_ ?_
         ·intro w' hSw; clear hSw; go_simp
         try simp only [ls1, ls0]
         refine rtk 22 (.bool true) ?_ ?_
         ·intro w' hSw; clear hSw; go_simp
         try simp only [ls1, ls0]
         refine rtk 23 (.bool true) ?_ ?_
         ·intro w' hSw; clear hSw; go_simp
         try simp only [ls1, ls0]
         refine wpAnyH_done (by kernel_rfl) ?_ _
         have HBW3 := Lib.hid (HBWX.out.trans (((Below.refl _ Wx).drew.trans (hb2.trans (hb3.mono hb2.size))).mono HWS.out))
         obtain ⟨_, _, _, _, _, _, _, _, _, _, _, _, _, _, _, _, _, _, _, _, _, _⟩ := t22 hHeld3
         have hc1 : Below w.heap.size w w3 := HB.out.trans (HBW3.out.mono HB.out.size)
         have HC3 := Lib.hid hc1
         clear hb2 hb3 hH hHeld1 hc1
         have HF := Lib.hid (HLESS.out HLET0.out)
         go_wp2_with fail
         go_ret
         exact ⟨ret_bool HF.out.symm, HC3.out⟩
        ·have ex4 : (xo == 4) = false := by simpa using hx4
         have ek0 : (((pre.length : Nat) : Int) == 0) = true := by simp [hk0]
         have HK0 := Lib.hid hk0
         have HX4 := Lib.hid hx4
         have HM2 := Lib.hid hm2
         have H4 := Lib.hid h4
         clear hC h7 h4 hm2 hk0 hx4
         have HISX : Hid (∀ W, Calls Tryz.prog 72 #[tma ⟨xo, xm, xn, xs, xk, xc⟩] W fun e w' => e = .returned (.bool false) ∧ Below W.heap.size W w') := Lib.hid (fun W => by have := refIs_any ⟨xo, xm, xn, xs, xk, xc⟩ W; rwa [show isC (⟨xo, xm, xn, xs, xk, xc⟩ : Tm).op = false from hbx] at this)
         have HIST : Hid (∀ W, Calls Tryz.prog 72 #[tma ⟨op, many, name, ts, tn, tc⟩] W fun e w' => e = .returned (.bool false) ∧ Below W.heap.size W w') := Lib.hid (fun W => by have := refIs_any ⟨op, many, name, ts, tn, tc⟩ W; rwa [show isC (⟨op, many, name, ts, tn, tc⟩ : Tm).op = false from hbt] at this)
         have HLET : Hid (letsF ⟨op, many - (pre.length : Nat), pre.map fun u => u.nd.name⟩ ⟨xo, xm, xn, xs, xk, xc⟩ = letsN ⟨op, many - (pre.length : Nat), pre.map fun u => u.nd.name⟩ xn) := Lib.hid (by simp [letsF, hbx, hofc, HX4.out])
         clear hbx hbt hofc
         refine wp_region_held_drew (S := fun W => Tm11 W w.heap.size 0 ⟨op, many, name, ts, tn, tc⟩ ∧ Tm11 W B 0 ⟨xo, xm, xn, xs, xk, xc⟩) (by kernel_rfl) (⟨HTX.out.below HLT.out (Below.refl _ _).drew, HXX.out.below HLB.out (Below.refl _ _).drew⟩) (fun hH => ?_)
         refine rtk 0 (.agg #[.int .i64 xo, .int .i64 xm, .string ⟨xn.toArray⟩, .string ⟨xs.toArray⟩, .int .i64 xk, .int .i64 xc.kind, .int .i64 xc.many, .string ⟨xc.name.toArray⟩, .string ⟨xc.s.toArray⟩, .bool xc.neg, .int .i64 xc.e]) ?_ ?_
         ·intro w' hSw; obtain ⟨_, _, _, _, _, _, _, _, _, _, _, _, _, _, _, _, _, _, _, _, _, _⟩ := t22 hSw; go_simp
         try simp only [ls1, ls0]
         refine rtk 2 (.agg #[.int .i64 op, .int .i64 many, .string ⟨name.toArray⟩, .string ⟨ts.toArray⟩, .int .i64 tn, .int .i64 tc.kind, .int .i64 tc.many, .string ⟨tc.name.toArray⟩, .string ⟨tc.s.toArray⟩, .bool tc.neg, .int .i64 tc.e]) ?_ ?_
         ·intro w' hSw; obtain ⟨_, _, _, _, _, _, _, _, _, _, _, _, _, _, _, _, _, _, _, _, _, _⟩ := t22 hSw; go_simp
         try simp only [ls1, ls0]
         refine wpAnyH_ready (rs := [1]) (by kernel_rfl) (by simp) ?_
         refine AllReadyH.cons rfl (fun K1 hK1 => ?_) AllReadyH.nil
         go_simp
         go_at_call 72
         refine (HISX.out _).mono ?_
         rintro e w2 ⟨rfl, hb2⟩
         go_wp2_with fail
         refine hK1.out _ _ (⟨hH.1.below HLT.out hb2, hH.2.below HLB.out hb2⟩) (fun hHeld1 => ?_)
         clear hK1 K1
         try simp only [ls1, ls0]
         refine wpAnyH_ready (rs := [3]) (by kernel_rfl) (by simp) ?_
         refine AllReadyH.cons rfl (fun K3 hK3 => ?_) AllReadyH.nil
         go_simp
         go_at_call 72
         refine (HIST.out _).mono ?_
         rintro e w3 ⟨rfl, hb3⟩
         go_wp2_with fail
         refine hK3.out _ _ (⟨hHeld1.1.below (Nat.lt_of_lt_of_le HLT.out hb2.size) hb3, hHeld1.2.below (Nat.lt_of_lt_of_le HLB.out hb2.size) hb3⟩) (fun hHeld3 => ?_)
         clear hK3 K3
         try simp only [ls1, ls0]
         refine rtk 4 (.bool false) ?_ ?_
         ·intro w' hSw; clear hSw; go_simp
         try simp only [ls1, ls0]
         refine rtk 5 (.pointer (some ⟨w.heap.size, 0, none⟩)) ?_ ?_
         ·intro w' hSw; clear hSw; go_simp
         try simp only [ls1, ls0]
         refine rtk 6 (.int .i64 op) ?_ ?_
         ·intro w' hSw; obtain ⟨_, _, _, _, _, _, _, _, _, _, _, _, _, _, _, _, _, _, _, _, _, _⟩ := t22 hSw; go_simp
         try simp only [ls1, ls0]
         refine rtk 7 (.bool false) ?_ ?_
         ·intro w' hSw; clear hSw; go_simp
         try simp only [ls1, ls0]
         refine rtk 8 (.bool false) ?_ ?_
         ·intro w' hSw; clear hSw; go_simp
         try simp only [ls1, ls0]
         refine rtk 9 (.bool false) ?_ ?_
         ·intro w' hSw; clear hSw; go_simp
         try simp only [ls1, ls0]
         refine rtk 10 (.bool false) ?_ ?_
         ·intro w' hSw; clear hSw; go_simp
         try simp only [ls1, ls0]
         refine rtk 11 (.pointer (some ⟨w.heap.size, 0, none⟩)) ?_ ?_
         ·intro w' hSw; clear hSw; go_simp
         try simp only [ls1, ls0]
         refine rtk 12 (.int .i64 op) ?_ ?_
         ·intro w' hSw; obtain ⟨_, _, _, _, _, _, _, _, _, _, _, _, _, _, _, _, _, _, _, _, _, _⟩ := t22 hSw; go_simp
         try simp only [ls1, ls0]
         refine rtk 13 (.bool true) ?_ ?_
         ·intro w' hSw; clear hSw; go_simp
         try simp only [ls1, ls0]
         refine rtk 14 (.bool true) ?_ ?_
         ·intro w' hSw; clear hSw; go_simp
         try simp only [ls1, ls0]
         refine rtk 15 (.int .i64 (pre.length : Nat)) ?_ ?_
         ·intro w' hSw; clear hSw; go_simp
         try simp only [ls1, ls0]
         refine rtk 16 (.bool true) ?_ ?_
         ·intro w' hSw; clear hSw; go_simp
         try simp only [ls1, ls0]
         refine rtk 17 (.bool true) ?_ ?_
         ·intro w' hSw; clear hSw; go_simp
         try simp only [ls1, ls0]
         refine rtk 18 (.bool true) ?_ ?_
         ·intro w' hSw; clear hSw; go_simp
         try simp only [ls1, ls0]
         refine rtk 19 (.pointer (some ⟨B, 0, none⟩)) ?_ ?_
         ·intro w' hSw; clear hSw; go_simp
         try simp only [ls1, ls0]
         refine rtk 20 (.int .i64 xo) ?_ ?_
         ·intro w' hSw; obtain ⟨_, _, _, _, _, _, _, _, _, _, _, _, _, _, _, _, _, _, _, _, _, _⟩ := t22 hSw; go_simp
         try simp only [ls1, ls0]
         refine rtk 21 (.bool false) ?_ ?_
         ·intro w' hSw; clear hSw; go_simp
         try simp only [ls1, ls0]
         refine rtk 22 (.bool false) ?_ ?_
         ·intro w' hSw; clear hSw; go_simp
         try simp only [ls1, ls0]
         refine rtk 23 (.bool false) ?_ ?_
         ·intro w' hSw; clear hSw; go_simp
         try simp only [ls1, ls0]
         refine wpAnyH_done (by kernel_rfl) ?_ _
         have HBW3 := Lib.hid (HBWX.out.trans (((Below.refl _ Wx).drew.trans (hb2.trans (hb3.mono hb2.size))).mono HWS.out))
         obtain ⟨_, _, _, _, _, _, _, _, _, _, _, _, _, _, _, _, _, _, _, _, _, _⟩ := t22 hHeld3
         have hc1 : Below w.heap.size w w3 := HB.out.trans (HBW3.out.mono HB.out.size)
         have HC3 := Lib.hid hc1
         clear hb2 hb3 hH hHeld1 hc1
         by_cases hxn : xn = []
         ·subst hxn
          have HM := Lib.hid (HMORE.out (HLET.out.trans (by simp [letsN, HN8.out])))
          go_wp2_with (go_at_call 60; refine (refNextT_any _ l i _ (hvH.out.below HC3.out) (by rw [HN.out]; exact hl) (by rw [HN.out]; omega)).mono ?_; rintro e w' ⟨rfl, rfl⟩; rw [HNX.out])
          go_roundw
          case rel => exact ⟨pre ++ [u], rest, HP2, by rw [HN2.out, Int.natCast_add], by simp, HBW3, HM⟩
          case measure => simp [intOf]; omega
         ·have HF : Hid (ans = false) := Lib.hid (HLESS.out (HLET.out.trans (by simp [letsN, HN8.out, hxn])))
          have hx1 : (xn == []) = false := by simpa using hxn
          have hx2 : (xn != []) = true := by simp [hxn]
          go_wp2_with fail
          go_ret
          exact ⟨ret_bool HF.out.symm, HC3.out⟩
       ·have ek0 : (((pre.length : Nat) : Int) == 0) = false := by simpa using hk0
        have HK0 := Lib.hid hk0
        have HM2 := Lib.hid hm2
        have hl2 : ¬ (many - (pre.length : Nat) = 2) := by omega
        have HL2 := Lib.hid hl2
        clear hC h7 h4 hm2 hk0 hl2
        have HISX : Hid (∀ W, Calls Tryz.prog 72 #[tma ⟨xo, xm, xn, xs, xk, xc⟩] W fun e w' => e = .returned (.bool false) ∧ Below W.heap.size W w') := Lib.hid (fun W => by have := refIs_any ⟨xo, xm, xn, xs, xk, xc⟩ W; rwa [show isC (⟨xo, xm, xn, xs, xk, xc⟩ : Tm).op = false from hbx] at this)
        have HIST : Hid (∀ W, Calls Tryz.prog 72 #[tma ⟨op, many, name, ts, tn, tc⟩] W fun e w' => e = .returned (.bool false) ∧ Below W.heap.size W w') := Lib.hid (fun W => by have := refIs_any ⟨op, many, name, ts, tn, tc⟩ W; rwa [show isC (⟨op, many, name, ts, tn, tc⟩ : Tm).op = false from hbt] at this)
        have HLET : Hid (letsF ⟨op, many - (pre.length : Nat), pre.map fun u => u.nd.name⟩ ⟨xo, xm, xn, xs, xk, xc⟩ = letsN ⟨op, many - (pre.length : Nat), pre.map fun u => u.nd.name⟩ xn) := Lib.hid (by simp [letsF, hbx, hofc, HL2.out])
        clear hbx hbt hofc
        refine wp_region_held_drew (S := fun W => Tm11 W w.heap.size 0 ⟨op, many, name, ts, tn, tc⟩ ∧ Tm11 W B 0 ⟨xo, xm, xn, xs, xk, xc⟩) (by kernel_rfl) (⟨HTX.out.below HLT.out (Below.refl _ _).drew, HXX.out.below HLB.out (Below.refl _ _).drew⟩) (fun hH => ?_)
        refine rtk 0 (.agg #[.int .i64 xo, .int .i64 xm, .string ⟨xn.toArray⟩, .string ⟨xs.toArray⟩, .int .i64 xk, .int .i64 xc.kind, .int .i64 xc.many, .string ⟨xc.name.toArray⟩, .string ⟨xc.s.toArray⟩, .bool xc.neg, .int .i64 xc.e]) ?_ ?_
        ·intro w' hSw; obtain ⟨_, _, _, _, _, _, _, _, _, _, _, _, _, _, _, _, _, _, _, _, _, _⟩ := t22 hSw; go_simp
        try simp only [ls1, ls0]
        refine rtk 2 (.agg #[.int .i64 op, .int .i64 many, .string ⟨name.toArray⟩, .string ⟨ts.toArray⟩, .int .i64 tn, .int .i64 tc.kind, .int .i64 tc.many, .string ⟨tc.name.toArray⟩, .string ⟨tc.s.toArray⟩, .bool tc.neg, .int .i64 tc.e]) ?_ ?_
        ·intro w' hSw; obtain ⟨_, _, _, _, _, _, _, _, _, _, _, _, _, _, _, _, _, _, _, _, _, _⟩ := t22 hSw; go_simp
        try simp only [ls1, ls0]
        refine wpAnyH_ready (rs := [1]) (by kernel_rfl) (by simp) ?_
        refine AllReadyH.cons rfl (fun K1 hK1 => ?_) AllReadyH.nil
        go_simp
        go_at_call 72
        refine (HISX.out _).mono ?_
        rintro e w2 ⟨rfl, hb2⟩
        go_wp2_with fail
        refine hK1.out _ _ (⟨hH.1.below HLT.out hb2, hH.2.below HLB.out hb2⟩) (fun hHeld1 => ?_)
        clear hK1 K1
        try simp only [ls1, ls0]
        refine wpAnyH_ready (rs := [3]) (by kernel_rfl) (by simp) ?_
        refine AllReadyH.cons rfl (fun K3 hK3 => ?_) AllReadyH.nil
        go_simp
        go_at_call 72
        refine (HIST.out _).mono ?_
        rintro e w3 ⟨rfl, hb3⟩
        go_wp2_with fail
        refine hK3.out _ _ (⟨hHeld1.1.below (Nat.lt_of_lt_of_le HLT.out hb2.size) hb3, hHeld1.2.below (Nat.lt_of_lt_of_le HLB.out hb2.size) hb3⟩) (fun hHeld3 => ?_)
        clear hK3 K3
        try simp only [ls1, ls0]
        refine rtk 4 (.bool false) ?_ ?_
        ·intro w' hSw; clear hSw; go_simp
        try simp only [ls1, ls0]
        refine rtk 5 (.pointer (some ⟨w.heap.size, 0, none⟩)) ?_ ?_
        ·intro w' hSw; clear hSw; go_simp
        try simp only [ls1, ls0]
        refine rtk 6 (.int .i64 op) ?_ ?_
        ·intro w' hSw; obtain ⟨_, _, _, _, _, _, _, _, _, _, _, _, _, _, _, _, _, _, _, _, _, _⟩ := t22 hSw; go_simp
        try simp only [ls1, ls0]
        refine rtk 7 (.bool false) ?_ ?_
        ·intro w' hSw; clear hSw; go_simp
        try simp only [ls1, ls0]
        refine rtk 8 (.bool false) ?_ ?_
        ·intro w' hSw; clear hSw; go_simp
        try simp only [ls1, ls0]
        refine rtk 9 (.bool false) ?_ ?_
        ·intro w' hSw; clear hSw; go_simp
        try simp only [ls1, ls0]
        refine rtk 10 (.bool false) ?_ ?_
        ·intro w' hSw; clear hSw; go_simp
        try simp only [ls1, ls0]
        refine rtk 11 (.pointer (some ⟨w.heap.size, 0, none⟩)) ?_ ?_
        ·intro w' hSw; clear hSw; go_simp
        try simp only [ls1, ls0]
        refine rtk 12 (.int .i64 op) ?_ ?_
        ·intro w' hSw; obtain ⟨_, _, _, _, _, _, _, _, _, _, _, _, _, _, _, _, _, _, _, _, _, _⟩ := t22 hSw; go_simp
        try simp only [ls1, ls0]
        refine rtk 13 (.bool true) ?_ ?_
        ·intro w' hSw; clear hSw; go_simp
        try simp only [ls1, ls0]
        refine rtk 14 (.bool true) ?_ ?_
        ·intro w' hSw; clear hSw; go_simp
        try simp only [ls1, ls0]
        refine rtk 15 (.int .i64 (pre.length : Nat)) ?_ ?_
        ·intro w' hSw; clear hSw; go_simp
        try simp only [ls1, ls0]
        refine rtk 16 (.bool false) ?_ ?_
        ·intro w' hSw; clear hSw; go_simp
        try simp only [ls1, ls0]
        refine rtk 17 (.bool false) ?_ ?_
        ·intro w' hSw; clear hSw; go_simp
        try simp only [ls1, ls0]
        refine rtk 18 (.bool false) ?_ ?_
        ·intro w' hSw; clear hSw; go_simp
        try simp only [ls1, ls0]
        refine rtn 19 ?_
        try simp only [ls1, ls0]
        refine rtn 20 ?_
        try simp only [ls1, ls0]
        refine rtn 21 ?_
        try simp only [ls1, ls0]
        refine rtk 22 (.bool false) ?_ ?_
        ·intro w' hSw; clear hSw; go_simp
        try simp only [ls1, ls0]
        refine rtk 23 (.bool false) ?_ ?_
        ·intro w' hSw; clear hSw; go_simp
        try simp only [ls1, ls0]
        refine wpAnyH_done (by kernel_rfl) ?_ _
        have HBW3 := Lib.hid (HBWX.out.trans (((Below.refl _ Wx).drew.trans (hb2.trans (hb3.mono hb2.size))).mono HWS.out))
        obtain ⟨_, _, _, _, _, _, _, _, _, _, _, _, _, _, _, _, _, _, _, _, _, _⟩ := t22 hHeld3
        have hc1 : Below w.heap.size w w3 := HB.out.trans (HBW3.out.mono HB.out.size)
        have HC3 := Lib.hid hc1
        clear hb2 hb3 hH hHeld1 hc1
        by_cases hxn : xn = []
        ·subst hxn
         have HM := Lib.hid (HMORE.out (HLET.out.trans (by simp [letsN, HN8.out])))
         go_wp2_with (go_at_call 60; refine (refNextT_any _ l i _ (hvH.out.below HC3.out) (by rw [HN.out]; exact hl) (by rw [HN.out]; omega)).mono ?_; rintro e w' ⟨rfl, rfl⟩; rw [HNX.out])
         go_roundw
         case rel => exact ⟨pre ++ [u], rest, HP2, by rw [HN2.out, Int.natCast_add], by simp, HBW3, HM⟩
         case measure => simp [intOf]; omega
        ·have HF : Hid (ans = false) := Lib.hid (HLESS.out (HLET.out.trans (by simp [letsN, HN8.out, hxn])))
         have hx1 : (xn == []) = false := by simpa using hxn
         have hx2 : (xn != []) = true := by simp [hxn]
         go_wp2_with fail
         go_ret
         exact ⟨ret_bool HF.out.symm, HC3.out⟩
      ·clear hC h7 h4 hm2
       have HISX : Hid (∀ W, Calls Tryz.prog 72 #[tma ⟨xo, xm, xn, xs, xk, xc⟩] W fun e w' => e = .returned (.bool true) ∧ Below W.heap.size W w') := Lib.hid (fun W => by have := refIs_any ⟨xo, xm, xn, xs, xk, xc⟩ W; rwa [show isC (⟨xo, xm, xn, xs, xk, xc⟩ : Tm).op = true from hbx] at this)
       have HIST : Hid (∀ W, Calls Tryz.prog 72 #[tma ⟨op, many, name, ts, tn, tc⟩] W fun e w' => e = .returned (.bool false) ∧ Below W.heap.size W w') := Lib.hid (fun W => by have := refIs_any ⟨op, many, name, ts, tn, tc⟩ W; rwa [show isC (⟨op, many, name, ts, tn, tc⟩ : Tm).op = false from hbt] at this)
       have HLET0 : Hid (letsF ⟨op, many - (pre.length : Nat), pre.map fun u => u.nd.name⟩ ⟨xo, xm, xn, xs, xk, xc⟩ = false) := Lib.hid (by simp [letsF, hbx, hofc])
       clear hbx hbt hofc
       refine wp_region_held_drew (S := fun W => Tm11 W w.heap.size 0 ⟨op, many, name, ts, tn, tc⟩ ∧ Tm11 W B 0 ⟨xo, xm, xn, xs, xk, xc⟩) (by kernel_rfl) (⟨HTX.out.below HLT.out (Below.refl _ _).drew, HXX.out.below HLB.out (Below.refl _ _).drew⟩) (fun hH => ?_)
       refine rtk 0 (.agg #[.int .i64 xo, .int .i64 xm, .string ⟨xn.toArray⟩, .string ⟨xs.toArray⟩, .int .i64 xk, .int .i64 xc.kind, .int .i64 xc.many, .string ⟨xc.name.toArray⟩, .string ⟨xc.s.toArray⟩, .bool xc.neg, .int .i64 xc.e]) ?_ ?_
       ·intro w' hSw; obtain ⟨_, _, _, _, _, _, _, _, _, _, _, _, _, _, _, _, _, _, _, _, _, _⟩ := t22 hSw; go_simp
       try simp only [ls1, ls0]
       refine rtk 2 (.agg #[.int .i64 op, .int .i64 many, .string ⟨name.toArray⟩, .string ⟨ts.toArray⟩, .int .i64 tn, .int .i64 tc.kind, .int .i64 tc.many, .string ⟨tc.name.toArray⟩, .string ⟨tc.s.toArray⟩, .bool tc.neg, .int .i64 tc.e]) ?_ ?_
       ·intro w' hSw; obtain ⟨_, _, _, _, _, _, _, _, _, _, _, _, _, _, _, _, _, _, _, _, _, _⟩ := t22 hSw; go_simp
       try simp only [ls1, ls0]
       refine wpAnyH_ready (rs := [1]) (by kernel_rfl) (by simp) ?_
       refine AllReadyH.cons rfl (fun K1 hK1 => ?_) AllReadyH.nil
       go_simp
       go_at_call 72
       refine (HISX.out _).mono ?_
       rintro e w2 ⟨rfl, hb2⟩
       go_wp2_with fail
       refine hK1.out _ _ (⟨hH.1.below HLT.out hb2, hH.2.below HLB.out hb2⟩) (fun hHeld1 => ?_)
       clear hK1 K1
       try simp only [ls1, ls0]
       refine wpAnyH_ready (rs := [3]) (by kernel_rfl) (by simp) ?_
       refine AllReadyH.cons rfl (fun K3 hK3 => ?_) AllReadyH.nil
       go_simp
       go_at_call 72
       refine (HIST.out _).mono ?_
       rintro e w3 ⟨rfl, hb3⟩
       go_wp2_with fail
       refine hK3.out _ _ (⟨hHeld1.1.below (Nat.lt_of_lt_of_le HLT.out hb2.size) hb3, hHeld1.2.below (Nat.lt_of_lt_of_le HLB.out hb2.size) hb3⟩) (fun hHeld3 => ?_)
       clear hK3 K3
       try simp only [ls1, ls0]
       refine rtk 4 (.bool false) ?_ ?_
       ·intro w' hSw; clear hSw; go_simp
       try simp only [ls1, ls0]
       refine rtk 5 (.pointer (some ⟨w.heap.size, 0, none⟩)) ?_ ?_
       ·intro w' hSw; clear hSw; go_simp
       try simp only [ls1, ls0]
       refine rtk 6 (.int .i64 op) ?_ ?_
       ·intro w' hSw; obtain ⟨_, _, _, _, _, _, _, _, _, _, _, _, _, _, _, _, _, _, _, _, _, _⟩ := t22 hSw; go_simp
       try simp only [ls1, ls0]
       refine rtk 7 (.bool false) ?_ ?_
       ·intro w' hSw; clear hSw; go_simp
       try simp only [ls1, ls0]
       refine rtk 8 (.bool false) ?_ ?_
       ·intro w' hSw; clear hSw; go_simp
       try simp only [ls1, ls0]
       refine rtk 9 (.bool true) ?_ ?_
       ·intro w' hSw; clear hSw; go_simp
       try simp only [ls1, ls0]
       refine rtk 10 (.bool true) ?_ ?_
       ·intro w' hSw; clear hSw; go_simp
       try simp only [ls1, ls0]
       refine rtn 11 ?_
       try simp only [ls1, ls0]
       refine rtn 12 ?_
       try simp only [ls1, ls0]
       refine rtn 13 ?_
       try simp only [ls1, ls0]
       refine rtn 14 ?_
       try simp only [ls1, ls0]
       refine rtn 15 ?_
       try simp only [ls1, ls0]
       refine rtn 16 ?_
       try simp only [ls1, ls0]
       refine rtn 17 ?_
       try simp only [ls1, ls0]
       refine rtn 18 ?_
       try simp only [ls1, ls0]
       refine rtn 19 ?_
       try simp only [ls1, ls0]
       refine rtn 20 ?_
       try simp only [ls1, ls0]
       refine rtn 21 ?_
       try simp only [ls1, ls0]
       refine rtn 22 ?_
       try simp only [ls1, ls0]
       refine rtk 23 (.bool true) ?_ ?_
       ·intro w' hSw; clear hSw; go_simp
       try simp only [ls1, ls0]
       refine wpAnyH_done (by kernel_rfl) ?_ _
       have HBW3 := Lib.hid (HBWX.out.trans (((Below.refl _ Wx).drew.trans (hb2.trans (hb3.mono hb2.size))).mono HWS.out))
       obtain ⟨_, _, _, _, _, _, _, _, _, _, _, _, _, _, _, _, _, _, _, _, _, _⟩ := t22 hHeld3
       have hc1 : Below w.heap.size w w3 := HB.out.trans (HBW3.out.mono HB.out.size)
       have HC3 := Lib.hid hc1
       clear hb2 hb3 hH hHeld1 hc1
       have HF := Lib.hid (HLESS.out HLET0.out)
       go_wp2_with fail
       go_ret
       exact ⟨ret_bool HF.out.symm, HC3.out⟩
     ·have hofc : ofC op = false := by simp [ofC]; omega
      have hne4 : op ≠ 4 := h4
      by_cases h8 : op = 8
      ·skip
       have e7 : (op == 7) = false := by simp; omega
       have e4 : (op == 4) = false := by simp; omega
       have e8 : (op == 8) = true := by simp; omega
       have e8n : (op != 8) = false := by simp; omega
       have HN8 : Hid (op = 8) := Lib.hid (by omega)
       cases hbx : isC xo
       ·skip
        clear hC h7 h4 h8
        have HISX : Hid (∀ W, Calls Tryz.prog 72 #[tma ⟨xo, xm, xn, xs, xk, xc⟩] W fun e w' => e = .returned (.bool false) ∧ Below W.heap.size W w') := Lib.hid (fun W => by have := refIs_any ⟨xo, xm, xn, xs, xk, xc⟩ W; rwa [show isC (⟨xo, xm, xn, xs, xk, xc⟩ : Tm).op = false from hbx] at this)
        have HIST : Hid (∀ W, Calls Tryz.prog 72 #[tma ⟨op, many, name, ts, tn, tc⟩] W fun e w' => e = .returned (.bool false) ∧ Below W.heap.size W w') := Lib.hid (fun W => by have := refIs_any ⟨op, many, name, ts, tn, tc⟩ W; rwa [show isC (⟨op, many, name, ts, tn, tc⟩ : Tm).op = false from hbt] at this)
        have HLET : Hid (letsF ⟨op, many - (pre.length : Nat), pre.map fun u => u.nd.name⟩ ⟨xo, xm, xn, xs, xk, xc⟩ = letsN ⟨op, many - (pre.length : Nat), pre.map fun u => u.nd.name⟩ xn) := Lib.hid (by simp [letsF, hbx, hofc, hne4])
        clear hbx hbt hofc
        refine wp_region_held_drew (S := fun W => Tm11 W w.heap.size 0 ⟨op, many, name, ts, tn, tc⟩ ∧ Tm11 W B 0 ⟨xo, xm, xn, xs, xk, xc⟩) (by kernel_rfl) (⟨HTX.out.below HLT.out (Below.refl _ _).drew, HXX.out.below HLB.out (Below.refl _ _).drew⟩) (fun hH => ?_)
        refine rtk 0 (.agg #[.int .i64 xo, .int .i64 xm, .string ⟨xn.toArray⟩, .string ⟨xs.toArray⟩, .int .i64 xk, .int .i64 xc.kind, .int .i64 xc.many, .string ⟨xc.name.toArray⟩, .string ⟨xc.s.toArray⟩, .bool xc.neg, .int .i64 xc.e]) ?_ ?_
        ·intro w' hSw; obtain ⟨_, _, _, _, _, _, _, _, _, _, _, _, _, _, _, _, _, _, _, _, _, _⟩ := t22 hSw; go_simp
        try simp only [ls1, ls0]
        refine rtk 2 (.agg #[.int .i64 op, .int .i64 many, .string ⟨name.toArray⟩, .string ⟨ts.toArray⟩, .int .i64 tn, .int .i64 tc.kind, .int .i64 tc.many, .string ⟨tc.name.toArray⟩, .string ⟨tc.s.toArray⟩, .bool tc.neg, .int .i64 tc.e]) ?_ ?_
        ·intro w' hSw; obtain ⟨_, _, _, _, _, _, _, _, _, _, _, _, _, _, _, _, _, _, _, _, _, _⟩ := t22 hSw; go_simp
        try simp only [ls1, ls0]
        refine wpAnyH_ready (rs := [1]) (by kernel_rfl) (by simp) ?_
        refine AllReadyH.cons rfl (fun K1 hK1 => ?_) AllReadyH.nil
        go_simp
        go_at_call 72
        refine (HISX.out _).mono ?_
        rintro e w2 ⟨rfl, hb2⟩
        go_wp2_with fail
        refine hK1.out _ _ (⟨hH.1.below HLT.out hb2, hH.2.below HLB.out hb2⟩) (fun hHeld1 => ?_)
        clear hK1 K1
        try simp only [ls1, ls0]
        refine wpAnyH_ready (rs := [3]) (by kernel_rfl) (by simp) ?_
        refine AllReadyH.cons rfl (fun K3 hK3 => ?_) AllReadyH.nil
        go_simp
        go_at_call 72
        refine (HIST.out _).mono ?_
        rintro e w3 ⟨rfl, hb3⟩
        go_wp2_with fail
        refine hK3.out _ _ (⟨hHeld1.1.below (Nat.lt_of_lt_of_le HLT.out hb2.size) hb3, hHeld1.2.below (Nat.lt_of_lt_of_le HLB.out hb2.size) hb3⟩) (fun hHeld3 => ?_)
        clear hK3 K3
        try simp only [ls1, ls0]
        refine rtk 4 (.bool false) ?_ ?_
        ·intro w' hSw; clear hSw; go_simp
        try simp only [ls1, ls0]
        refine rtk 5 (.pointer (some ⟨w.heap.size, 0, none⟩)) ?_ ?_
        ·intro w' hSw; clear hSw; go_simp
        try simp only [ls1, ls0]
        refine rtk 6 (.int .i64 op) ?_ ?_
        ·intro w' hSw; obtain ⟨_, _, _, _, _, _, _, _, _, _, _, _, _, _, _, _, _, _, _, _, _, _⟩ := t22 hSw; go_simp
        try simp only [ls1, ls0]
        refine rtk 7 (.bool false) ?_ ?_
        ·intro w' hSw; clear hSw; go_simp
        try simp only [ls1, ls0]
        refine rtk 8 (.bool false) ?_ ?_
        ·intro w' hSw; clear hSw; go_simp
        try simp only [ls1, ls0]
        refine rtk 9 (.bool false) ?_ ?_
        ·intro w' hSw; clear hSw; go_simp
        try simp only [ls1, ls0]
        refine rtk 10 (.bool false) ?_ ?_
        ·intro w' hSw; clear hSw; go_simp
        try simp only [ls1, ls0]
        refine rtk 11 (.pointer (some ⟨w.heap.size, 0, none⟩)) ?_ ?_
        ·intro w' hSw; clear hSw; go_simp
        try simp only [ls1, ls0]
        refine rtk 12 (.int .i64 op) ?_ ?_
        ·intro w' hSw; obtain ⟨_, _, _, _, _, _, _, _, _, _, _, _, _, _, _, _, _, _, _, _, _, _⟩ := t22 hSw; go_simp
        try simp only [ls1, ls0]
        refine rtk 13 (.bool false) ?_ ?_
        ·intro w' hSw; clear hSw; go_simp
        try simp only [ls1, ls0]
        refine rtk 14 (.bool false) ?_ ?_
        ·intro w' hSw; clear hSw; go_simp
        try simp only [ls1, ls0]
        refine rtn 15 ?_
        try simp only [ls1, ls0]
        refine rtn 16 ?_
        try simp only [ls1, ls0]
        refine rtk 17 (.bool false) ?_ ?_
        ·intro w' hSw; clear hSw; go_simp
        try simp only [ls1, ls0]
        refine rtk 18 (.bool false) ?_ ?_
        ·intro w' hSw; clear hSw; go_simp
        try simp only [ls1, ls0]
        refine rtn 19 ?_
        try simp only [ls1, ls0]
        refine rtn 20 ?_
        try simp only [ls1, ls0]
        refine rtn 21 ?_
        try simp only [ls1, ls0]
        refine rtk 22 (.bool false) ?_ ?_
        ·intro w' hSw; clear hSw; go_simp
        try simp only [ls1, ls0]
        refine rtk 23 (.bool false) ?_ ?_
        ·intro w' hSw; clear hSw; go_simp
        try simp only [ls1, ls0]
        refine wpAnyH_done (by kernel_rfl) ?_ _
        have HBW3 := Lib.hid (HBWX.out.trans (((Below.refl _ Wx).drew.trans (hb2.trans (hb3.mono hb2.size))).mono HWS.out))
        obtain ⟨_, _, _, _, _, _, _, _, _, _, _, _, _, _, _, _, _, _, _, _, _, _⟩ := t22 hHeld3
        have hc1 : Below w.heap.size w w3 := HB.out.trans (HBW3.out.mono HB.out.size)
        have HC3 := Lib.hid hc1
        clear hb2 hb3 hH hHeld1 hc1
        have HSN : Hid ((ByteArray.mk xn.toArray).size ≤ maxLen) := Lib.hid (by rw [mk_size]; exact HUS.out.1)
        cases hv : vld xn
        ·have HF : Hid (ans = false) := Lib.hid (HLESS.out (HLET.out.trans (by simp [letsN, HN8.out, hv])))
         have HV := Lib.hid hv
         clear hv
         go_wp2_with (go_at_call 18; refine (refUtf_any _ _ HSN.out).mono ?_; rintro e w' ⟨rfl, rfl⟩; rw [show Lib.validD (ByteArray.mk xn.toArray).data.toList = false from HV.out])
         go_ret
         exact ⟨ret_bool HF.out.symm, HC3.out⟩
        ·have HV := Lib.hid hv
         clear hv
         cases hm : decide (xn ∈ pre.map fun x => x.nd.name)
         ·have HM := Lib.hid (HMORE.out (HLET.out.trans (by have hm2 := of_decide_eq_false hm; unfold letsN; rw [if_pos HN8.out, HV.out]; simpa using hm2)))
          have HMM := Lib.hid hm
          clear hm
          go_wp2_with (first | (go_at_call 18; refine (refUtf_any _ _ HSN.out).mono ?_; rintro e w' ⟨rfl, rfl⟩; rw [show Lib.validD (ByteArray.mk xn.toArray).data.toList = true from HV.out]) | (go_at_call 147; refine (HHAD.out _ HC3.out).mono ?_; rintro e w4 ⟨rfl, m4, rfl⟩; rw [show decide (xn ∈ pre.map fun x => x.nd.name) = false from HMM.out]) | (go_at_call 60; refine (refNextT_any _ l i _ (hvH.out.below (drewN_below HC3.out m4)) (by rw [HN.out]; exact hl) (by rw [HN.out]; omega)).mono ?_; rintro e w' ⟨rfl, rfl⟩; rw [HNX.out]))
          go_roundw
          case rel => exact ⟨pre ++ [u], rest, HP2, by rw [HN2.out, Int.natCast_add], by simp, Lib.hid (drewN_below HBW3.out m4), HM⟩
          case measure => simp [intOf]; omega
         ·have HF : Hid (ans = false) := Lib.hid (HLESS.out (HLET.out.trans (by have hm2 := of_decide_eq_true hm; unfold letsN; rw [if_pos HN8.out]; simp only [Bool.and_eq_false_iff]; left; simpa using hm2)))
          have HMM := Lib.hid hm
          clear hm
          go_wp2_with (first | (go_at_call 18; refine (refUtf_any _ _ HSN.out).mono ?_; rintro e w' ⟨rfl, rfl⟩; rw [show Lib.validD (ByteArray.mk xn.toArray).data.toList = true from HV.out]) | (go_at_call 147; refine (HHAD.out _ HC3.out).mono ?_; rintro e w4 ⟨rfl, m4, rfl⟩; rw [show decide (xn ∈ pre.map fun x => x.nd.name) = true from HMM.out]))
          go_ret
          exact ⟨ret_bool HF.out.symm, drewN_below HC3.out m4⟩
       ·skip
        clear hC h7 h4 h8
        have HISX : Hid (∀ W, Calls Tryz.prog 72 #[tma ⟨xo, xm, xn, xs, xk, xc⟩] W fun e w' => e = .returned (.bool true) ∧ Below W.heap.size W w') := Lib.hid (fun W => by have := refIs_any ⟨xo, xm, xn, xs, xk, xc⟩ W; rwa [show isC (⟨xo, xm, xn, xs, xk, xc⟩ : Tm).op = true from hbx] at this)
        have HIST : Hid (∀ W, Calls Tryz.prog 72 #[tma ⟨op, many, name, ts, tn, tc⟩] W fun e w' => e = .returned (.bool false) ∧ Below W.heap.size W w') := Lib.hid (fun W => by have := refIs_any ⟨op, many, name, ts, tn, tc⟩ W; rwa [show isC (⟨op, many, name, ts, tn, tc⟩ : Tm).op = false from hbt] at this)
        have HLET0 : Hid (letsF ⟨op, many - (pre.length : Nat), pre.map fun u => u.nd.name⟩ ⟨xo, xm, xn, xs, xk, xc⟩ = false) := Lib.hid (by simp [letsF, hbx, hofc])
        clear hbx hbt hofc
        refine wp_region_held_drew (S := fun W => Tm11 W w.heap.size 0 ⟨op, many, name, ts, tn, tc⟩ ∧ Tm11 W B 0 ⟨xo, xm, xn, xs, xk, xc⟩) (by kernel_rfl) (⟨HTX.out.below HLT.out (Below.refl _ _).drew, HXX.out.below HLB.out (Below.refl _ _).drew⟩) (fun hH => ?_)
        refine rtk 0 (.agg #[.int .i64 xo, .int .i64 xm, .string ⟨xn.toArray⟩, .string ⟨xs.toArray⟩, .int .i64 xk, .int .i64 xc.kind, .int .i64 xc.many, .string ⟨xc.name.toArray⟩, .string ⟨xc.s.toArray⟩, .bool xc.neg, .int .i64 xc.e]) ?_ ?_
        ·intro w' hSw; obtain ⟨_, _, _, _, _, _, _, _, _, _, _, _, _, _, _, _, _, _, _, _, _, _⟩ := t22 hSw; go_simp
        try simp only [ls1, ls0]
        refine rtk 2 (.agg #[.int .i64 op, .int .i64 many, .string ⟨name.toArray⟩, .string ⟨ts.toArray⟩, .int .i64 tn, .int .i64 tc.kind, .int .i64 tc.many, .string ⟨tc.name.toArray⟩, .string ⟨tc.s.toArray⟩, .bool tc.neg, .int .i64 tc.e]) ?_ ?_
        ·intro w' hSw; obtain ⟨_, _, _, _, _, _, _, _, _, _, _, _, _, _, _, _, _, _, _, _, _, _⟩ := t22 hSw; go_simp
        try simp only [ls1, ls0]
        refine wpAnyH_ready (rs := [1]) (by kernel_rfl) (by simp) ?_
        refine AllReadyH.cons rfl (fun K1 hK1 => ?_) AllReadyH.nil
        go_simp
        go_at_call 72
        refine (HISX.out _).mono ?_
        rintro e w2 ⟨rfl, hb2⟩
        go_wp2_with fail
        refine hK1.out _ _ (⟨hH.1.below HLT.out hb2, hH.2.below HLB.out hb2⟩) (fun hHeld1 => ?_)
        clear hK1 K1
        try simp only [ls1, ls0]
        refine wpAnyH_ready (rs := [3]) (by kernel_rfl) (by simp) ?_
        refine AllReadyH.cons rfl (fun K3 hK3 => ?_) AllReadyH.nil
        go_simp
        go_at_call 72
        refine (HIST.out _).mono ?_
        rintro e w3 ⟨rfl, hb3⟩
        go_wp2_with fail
        refine hK3.out _ _ (⟨hHeld1.1.below (Nat.lt_of_lt_of_le HLT.out hb2.size) hb3, hHeld1.2.below (Nat.lt_of_lt_of_le HLB.out hb2.size) hb3⟩) (fun hHeld3 => ?_)
        clear hK3 K3
        try simp only [ls1, ls0]
        refine rtk 4 (.bool false) ?_ ?_
        ·intro w' hSw; clear hSw; go_simp
        try simp only [ls1, ls0]
        refine rtk 5 (.pointer (some ⟨w.heap.size, 0, none⟩)) ?_ ?_
        ·intro w' hSw; clear hSw; go_simp
        try simp only [ls1, ls0]
        refine rtk 6 (.int .i64 op) ?_ ?_
        ·intro w' hSw; obtain ⟨_, _, _, _, _, _, _, _, _, _, _, _, _, _, _, _, _, _, _, _, _, _⟩ := t22 hSw; go_simp
        try simp only [ls1, ls0]
        refine rtk 7 (.bool false) ?_ ?_
        ·intro w' hSw; clear hSw; go_simp
        try simp only [ls1, ls0]
        refine rtk 8 (.bool false) ?_ ?_
        ·intro w' hSw; clear hSw; go_simp
        try simp only [ls1, ls0]
        refine rtk 9 (.bool true) ?_ ?_
        ·intro w' hSw; clear hSw; go_simp
        try simp only [ls1, ls0]
        refine rtk 10 (.bool true) ?_ ?_
        ·intro w' hSw; clear hSw; go_simp
        try simp only [ls1, ls0]
        refine rtn 11 ?_
        try simp only [ls1, ls0]
        refine rtn 12 ?_
        try simp only [ls1, ls0]
        refine rtn 13 ?_
        try simp only [ls1, ls0]
        refine rtn 14 ?_
        try simp only [ls1, ls0]
        refine rtn 15 ?_
        try simp only [ls1, ls0]
        refine rtn 16 ?_
        try simp only [ls1, ls0]
        refine rtn 17 ?_
        try simp only [ls1, ls0]
        refine rtn 18 ?_
        try simp only [ls1, ls0]
        refine rtn 19 ?_
        try simp only [ls1, ls0]
        refine rtn 20 ?_
        try simp only [ls1, ls0]
        refine rtn 21 ?_
        try simp only [ls1, ls0]
        refine rtn 22 ?_
        try simp only [ls1, ls0]
        refine rtk 23 (.bool true) ?_ ?_
        ·intro w' hSw; clear hSw; go_simp
        try simp only [ls1, ls0]
        refine wpAnyH_done (by kernel_rfl) ?_ _
        have HBW3 := Lib.hid (HBWX.out.trans (((Below.refl _ Wx).drew.trans (hb2.trans (hb3.mono hb2.size))).mono HWS.out))
        obtain ⟨_, _, _, _, _, _, _, _, _, _, _, _, _, _, _, _, _, _, _, _, _, _⟩ := t22 hHeld3
        have hc1 : Below w.heap.size w w3 := HB.out.trans (HBW3.out.mono HB.out.size)
        have HC3 := Lib.hid hc1
        clear hb2 hb3 hH hHeld1 hc1
        have HF := Lib.hid (HLESS.out HLET0.out)
        go_wp2_with fail
        go_ret
        exact ⟨ret_bool HF.out.symm, HC3.out⟩
      ·skip
       have e7 : (op == 7) = false := by simp; omega
       have e4 : (op == 4) = false := by simp; omega
       have e8 : (op == 8) = false := by simp; omega
       have e8n : (op != 8) = true := by simp; omega
       have HN8 : Hid (op ≠ 8) := Lib.hid (by omega)
       cases hbx : isC xo
       ·skip
        clear hC h7 h4 h8
        have HISX : Hid (∀ W, Calls Tryz.prog 72 #[tma ⟨xo, xm, xn, xs, xk, xc⟩] W fun e w' => e = .returned (.bool false) ∧ Below W.heap.size W w') := Lib.hid (fun W => by have := refIs_any ⟨xo, xm, xn, xs, xk, xc⟩ W; rwa [show isC (⟨xo, xm, xn, xs, xk, xc⟩ : Tm).op = false from hbx] at this)
        have HIST : Hid (∀ W, Calls Tryz.prog 72 #[tma ⟨op, many, name, ts, tn, tc⟩] W fun e w' => e = .returned (.bool false) ∧ Below W.heap.size W w') := Lib.hid (fun W => by have := refIs_any ⟨op, many, name, ts, tn, tc⟩ W; rwa [show isC (⟨op, many, name, ts, tn, tc⟩ : Tm).op = false from hbt] at this)
        have HLET : Hid (letsF ⟨op, many - (pre.length : Nat), pre.map fun u => u.nd.name⟩ ⟨xo, xm, xn, xs, xk, xc⟩ = letsN ⟨op, many - (pre.length : Nat), pre.map fun u => u.nd.name⟩ xn) := Lib.hid (by simp [letsF, hbx, hofc, hne4])
        clear hbx hbt hofc
        refine wp_region_held_drew (S := fun W => Tm11 W w.heap.size 0 ⟨op, many, name, ts, tn, tc⟩ ∧ Tm11 W B 0 ⟨xo, xm, xn, xs, xk, xc⟩) (by kernel_rfl) (⟨HTX.out.below HLT.out (Below.refl _ _).drew, HXX.out.below HLB.out (Below.refl _ _).drew⟩) (fun hH => ?_)
        refine rtk 0 (.agg #[.int .i64 xo, .int .i64 xm, .string ⟨xn.toArray⟩, .string ⟨xs.toArray⟩, .int .i64 xk, .int .i64 xc.kind, .int .i64 xc.many, .string ⟨xc.name.toArray⟩, .string ⟨xc.s.toArray⟩, .bool xc.neg, .int .i64 xc.e]) ?_ ?_
        ·intro w' hSw; obtain ⟨_, _, _, _, _, _, _, _, _, _, _, _, _, _, _, _, _, _, _, _, _, _⟩ := t22 hSw; go_simp
        try simp only [ls1, ls0]
        refine rtk 2 (.agg #[.int .i64 op, .int .i64 many, .string ⟨name.toArray⟩, .string ⟨ts.toArray⟩, .int .i64 tn, .int .i64 tc.kind, .int .i64 tc.many, .string ⟨tc.name.toArray⟩, .string ⟨tc.s.toArray⟩, .bool tc.neg, .int .i64 tc.e]) ?_ ?_
        ·intro w' hSw; obtain ⟨_, _, _, _, _, _, _, _, _, _, _, _, _, _, _, _, _, _, _, _, _, _⟩ := t22 hSw; go_simp
        try simp only [ls1, ls0]
        refine wpAnyH_ready (rs := [1]) (by kernel_rfl) (by simp) ?_
        refine AllReadyH.cons rfl (fun K1 hK1 => ?_) AllReadyH.nil
        go_simp
        go_at_call 72
        refine (HISX.out _).mono ?_
        rintro e w2 ⟨rfl, hb2⟩
        go_wp2_with fail
        refine hK1.out _ _ (⟨hH.1.below HLT.out hb2, hH.2.below HLB.out hb2⟩) (fun hHeld1 => ?_)
        clear hK1 K1
        try simp only [ls1, ls0]
        refine wpAnyH_ready (rs := [3]) (by kernel_rfl) (by simp) ?_
        refine AllReadyH.cons rfl (fun K3 hK3 => ?_) AllReadyH.nil
        go_simp
        go_at_call 72
        refine (HIST.out _).mono ?_
        rintro e w3 ⟨rfl, hb3⟩
        go_wp2_with fail
        refine hK3.out _ _ (⟨hHeld1.1.below (Nat.lt_of_lt_of_le HLT.out hb2.size) hb3, hHeld1.2.below (Nat.lt_of_lt_of_le HLB.out hb2.size) hb3⟩) (fun hHeld3 => ?_)
        clear hK3 K3
        try simp only [ls1, ls0]
        refine rtk 4 (.bool false) ?_ ?_
        ·intro w' hSw; clear hSw; go_simp
        try simp only [ls1, ls0]
        refine rtk 5 (.pointer (some ⟨w.heap.size, 0, none⟩)) ?_ ?_
        ·intro w' hSw; clear hSw; go_simp
        try simp only [ls1, ls0]
        refine rtk 6 (.int .i64 op) ?_ ?_
        ·intro w' hSw; obtain ⟨_, _, _, _, _, _, _, _, _, _, _, _, _, _, _, _, _, _, _, _, _, _⟩ := t22 hSw; go_simp
        try simp only [ls1, ls0]
        refine rtk 7 (.bool false) ?_ ?_
        ·intro w' hSw; clear hSw; go_simp
        try simp only [ls1, ls0]
        refine rtk 8 (.bool false) ?_ ?_
        ·intro w' hSw; clear hSw; go_simp
        try simp only [ls1, ls0]
        refine rtk 9 (.bool false) ?_ ?_
        ·intro w' hSw; clear hSw; go_simp
        try simp only [ls1, ls0]
        refine rtk 10 (.bool false) ?_ ?_
        ·intro w' hSw; clear hSw; go_simp
        try simp only [ls1, ls0]
        refine rtk 11 (.pointer (some ⟨w.heap.size, 0, none⟩)) ?_ ?_
        ·intro w' hSw; clear hSw; go_simp
        try simp only [ls1, ls0]
        refine rtk 12 (.int .i64 op) ?_ ?_
        ·intro w' hSw; obtain ⟨_, _, _, _, _, _, _, _, _, _, _, _, _, _, _, _, _, _, _, _, _, _⟩ := t22 hSw; go_simp
        try simp only [ls1, ls0]
        refine rtk 13 (.bool false) ?_ ?_
        ·intro w' hSw; clear hSw; go_simp
        try simp only [ls1, ls0]
        refine rtk 14 (.bool false) ?_ ?_
        ·intro w' hSw; clear hSw; go_simp
        try simp only [ls1, ls0]
        refine rtn 15 ?_
        try simp only [ls1, ls0]
        refine rtn 16 ?_
        try simp only [ls1, ls0]
        refine rtk 17 (.bool false) ?_ ?_
        ·intro w' hSw; clear hSw; go_simp
        try simp only [ls1, ls0]
        refine rtk 18 (.bool false) ?_ ?_
        ·intro w' hSw; clear hSw; go_simp
        try simp only [ls1, ls0]
        refine rtn 19 ?_
        try simp only [ls1, ls0]
        refine rtn 20 ?_
        try simp only [ls1, ls0]
        refine rtn 21 ?_
        try simp only [ls1, ls0]
        refine rtk 22 (.bool false) ?_ ?_
        ·intro w' hSw; clear hSw; go_simp
        try simp only [ls1, ls0]
        refine rtk 23 (.bool false) ?_ ?_
        ·intro w' hSw; clear hSw; go_simp
        try simp only [ls1, ls0]
        refine wpAnyH_done (by kernel_rfl) ?_ _
        have HBW3 := Lib.hid (HBWX.out.trans (((Below.refl _ Wx).drew.trans (hb2.trans (hb3.mono hb2.size))).mono HWS.out))
        obtain ⟨_, _, _, _, _, _, _, _, _, _, _, _, _, _, _, _, _, _, _, _, _, _⟩ := t22 hHeld3
        have hc1 : Below w.heap.size w w3 := HB.out.trans (HBW3.out.mono HB.out.size)
        have HC3 := Lib.hid hc1
        clear hb2 hb3 hH hHeld1 hc1
        by_cases hxn : xn = []
        ·subst hxn
         have HM := Lib.hid (HMORE.out (HLET.out.trans (by simp [letsN, HN8.out])))
         go_wp2_with (go_at_call 60; refine (refNextT_any _ l i _ (hvH.out.below HC3.out) (by rw [HN.out]; exact hl) (by rw [HN.out]; omega)).mono ?_; rintro e w' ⟨rfl, rfl⟩; rw [HNX.out])
         go_roundw
         case rel => exact ⟨pre ++ [u], rest, HP2, by rw [HN2.out, Int.natCast_add], by simp, HBW3, HM⟩
         case measure => simp [intOf]; omega
        ·have HF : Hid (ans = false) := Lib.hid (HLESS.out (HLET.out.trans (by simp [letsN, HN8.out, hxn])))
         have hx1 : (xn == []) = false := by simpa using hxn
         have hx2 : (xn != []) = true := by simp [hxn]
         go_wp2_with fail
         go_ret
         exact ⟨ret_bool HF.out.symm, HC3.out⟩
       ·skip
        clear hC h7 h4 h8
        have HISX : Hid (∀ W, Calls Tryz.prog 72 #[tma ⟨xo, xm, xn, xs, xk, xc⟩] W fun e w' => e = .returned (.bool true) ∧ Below W.heap.size W w') := Lib.hid (fun W => by have := refIs_any ⟨xo, xm, xn, xs, xk, xc⟩ W; rwa [show isC (⟨xo, xm, xn, xs, xk, xc⟩ : Tm).op = true from hbx] at this)
        have HIST : Hid (∀ W, Calls Tryz.prog 72 #[tma ⟨op, many, name, ts, tn, tc⟩] W fun e w' => e = .returned (.bool false) ∧ Below W.heap.size W w') := Lib.hid (fun W => by have := refIs_any ⟨op, many, name, ts, tn, tc⟩ W; rwa [show isC (⟨op, many, name, ts, tn, tc⟩ : Tm).op = false from hbt] at this)
        have HLET0 : Hid (letsF ⟨op, many - (pre.length : Nat), pre.map fun u => u.nd.name⟩ ⟨xo, xm, xn, xs, xk, xc⟩ = false) := Lib.hid (by simp [letsF, hbx, hofc])
        clear hbx hbt hofc
        refine wp_region_held_drew (S := fun W => Tm11 W w.heap.size 0 ⟨op, many, name, ts, tn, tc⟩ ∧ Tm11 W B 0 ⟨xo, xm, xn, xs, xk, xc⟩) (by kernel_rfl) (⟨HTX.out.below HLT.out (Below.refl _ _).drew, HXX.out.below HLB.out (Below.refl _ _).drew⟩) (fun hH => ?_)
        refine rtk 0 (.agg #[.int .i64 xo, .int .i64 xm, .string ⟨xn.toArray⟩, .string ⟨xs.toArray⟩, .int .i64 xk, .int .i64 xc.kind, .int .i64 xc.many, .string ⟨xc.name.toArray⟩, .string ⟨xc.s.toArray⟩, .bool xc.neg, .int .i64 xc.e]) ?_ ?_
        ·intro w' hSw; obtain ⟨_, _, _, _, _, _, _, _, _, _, _, _, _, _, _, _, _, _, _, _, _, _⟩ := t22 hSw; go_simp
        try simp only [ls1, ls0]
        refine rtk 2 (.agg #[.int .i64 op, .int .i64 many, .string ⟨name.toArray⟩, .string ⟨ts.toArray⟩, .int .i64 tn, .int .i64 tc.kind, .int .i64 tc.many, .string ⟨tc.name.toArray⟩, .string ⟨tc.s.toArray⟩, .bool tc.neg, .int .i64 tc.e]) ?_ ?_
        ·intro w' hSw; obtain ⟨_, _, _, _, _, _, _, _, _, _, _, _, _, _, _, _, _, _, _, _, _, _⟩ := t22 hSw; go_simp
        try simp only [ls1, ls0]
        refine wpAnyH_ready (rs := [1]) (by kernel_rfl) (by simp) ?_
        refine AllReadyH.cons rfl (fun K1 hK1 => ?_) AllReadyH.nil
        go_simp
        go_at_call 72
        refine (HISX.out _).mono ?_
        rintro e w2 ⟨rfl, hb2⟩
        go_wp2_with fail
        refine hK1.out _ _ (⟨hH.1.below HLT.out hb2, hH.2.below HLB.out hb2⟩) (fun hHeld1 => ?_)
        clear hK1 K1
        try simp only [ls1, ls0]
        refine wpAnyH_ready (rs := [3]) (by kernel_rfl) (by simp) ?_
        refine AllReadyH.cons rfl (fun K3 hK3 => ?_) AllReadyH.nil
        go_simp
        go_at_call 72
        refine (HIST.out _).mono ?_
        rintro e w3 ⟨rfl, hb3⟩
        go_wp2_with fail
        refine hK3.out _ _ (⟨hHeld1.1.below (Nat.lt_of_lt_of_le HLT.out hb2.size) hb3, hHeld1.2.below (Nat.lt_of_lt_of_le HLB.out hb2.size) hb3⟩) (fun hHeld3 => ?_)
        clear hK3 K3
        try simp only [ls1, ls0]
        refine rtk 4 (.bool false) ?_ ?_
        ·intro w' hSw; clear hSw; go_simp
        try simp only [ls1, ls0]
        refine rtk 5 (.pointer (some ⟨w.heap.size, 0, none⟩)) ?_ ?_
        ·intro w' hSw; clear hSw; go_simp
        try simp only [ls1, ls0]
        refine rtk 6 (.int .i64 op) ?_ ?_
        ·intro w' hSw; obtain ⟨_, _, _, _, _, _, _, _, _, _, _, _, _, _, _, _, _, _, _, _, _, _⟩ := t22 hSw; go_simp
        try simp only [ls1, ls0]
        refine rtk 7 (.bool false) ?_ ?_
        ·intro w' hSw; clear hSw; go_simp
        try simp only [ls1, ls0]
        refine rtk 8 (.bool false) ?_ ?_
        ·intro w' hSw; clear hSw; go_simp
        try simp only [ls1, ls0]
        refine rtk 9 (.bool true) ?_ ?_
        ·intro w' hSw; clear hSw; go_simp
        try simp only [ls1, ls0]
        refine rtk 10 (.bool true) ?_ ?_
        ·intro w' hSw; clear hSw; go_simp
        try simp only [ls1, ls0]
        refine rtn 11 ?_
        try simp only [ls1, ls0]
        refine rtn 12 ?_
        try simp only [ls1, ls0]
        refine rtn 13 ?_
        try simp only [ls1, ls0]
        refine rtn 14 ?_
        try simp only [ls1, ls0]
        refine rtn 15 ?_
        try simp only [ls1, ls0]
        refine rtn 16 ?_
        try simp only [ls1, ls0]
        refine rtn 17 ?_
        try simp only [ls1, ls0]
        refine rtn 18 ?_
        try simp only [ls1, ls0]
        refine rtn 19 ?_
        try simp only [ls1, ls0]
        refine rtn 20 ?_
        try simp only [ls1, ls0]
        refine rtn 21 ?_
        try simp only [ls1, ls0]
        refine rtn 22 ?_
        try simp only [ls1, ls0]
        refine rtk 23 (.bool true) ?_ ?_
        ·intro w' hSw; clear hSw; go_simp
        try simp only [ls1, ls0]
        refine wpAnyH_done (by kernel_rfl) ?_ _
        have HBW3 := Lib.hid (HBWX.out.trans (((Below.refl _ Wx).drew.trans (hb2.trans (hb3.mono hb2.size))).mono HWS.out))
        obtain ⟨_, _, _, _, _, _, _, _, _, _, _, _, _, _, _, _, _, _, _, _, _, _⟩ := t22 hHeld3
        have hc1 : Below w.heap.size w w3 := HB.out.trans (HBW3.out.mono HB.out.size)
        have HC3 := Lib.hid hc1
        clear hb2 hb3 hH hHeld1 hc1
        have HF := Lib.hid (HLESS.out HLET0.out)
        go_wp2_with fail
        go_ret
        exact ⟨ret_bool HF.out.symm, HC3.out⟩
end Go.Proofs.YtldioobbfkaebaaGreatDoor
