/-
  Joined: NumPlain3, TxP, TxP2, TxP3, NumPlain4, TxP5, FwT, NumW6, NumW7, TxG.
-/
import Derived.Test.YtdgcdemihalefaaGreatDoorNumPlain2
import Derived.Test.YtdgcdemihalefaaGreatDoorQuoP
import Derived.Test.YtdgcdemihalefaaGreatDoorTermTellsJ1
import Derived.Lib.Strings
import Derived.Lib.SlTrimSet
import Derived.Test.YtdgcdemihalefaaGreatDoorTermTellsJ2
import Derived.Lib.Repeat
import Derived.Lib.ItoaNum
import Derived.Lib.ItoaLen
import Derived.Test.YtdgcdemihalefaaGreatDoorNumW5
namespace Go.Proofs.YtdgcdemihalefaaGreatDoor
namespace Np
open Go.RowKit
def powOf (r : Wr) : Int := if r.down = true then -(worth (Lib.trimLeftB r.power 48) : Int) else (worth (Lib.trimLeftB r.power 48) : Int)
def mkW (r : Wr) : Nd × Int := mk r.neg (r.whole ++ r.part) (powOf r - r.part.length)
def readF (l : List UInt8) : Nd × Int × Int :=
  if (scanF l).2.2 = false then (nd0, (scanF l).2.1, 1) else if 6 < (Lib.trimLeftB (scanF l).1.power 48).length then (nd0, 0, 2) else ((mkW (scanF l).1).1, 0, (mkW (scanF l).1).2)
end Np
end Go.Proofs.YtdgcdemihalefaaGreatDoor
namespace Go.Proofs.YtdgcdemihalefaaGreatDoor
namespace Tp
open Go.RowKit Np Rw Vp Up Qp
inductive Rs (α : Type) where
  | ok (v : α) (p : Nat)
  | bad (e : Int) (p : Nat)
deriving DecidableEq
def blk (c : Nat) : Bool := decide (c = 32) || decide (c = 9) || decide (c = 10) || decide (c = 13)
def skF : List UInt8 → Nat → Nat
  | [], i => i
  | c :: l, i => if blk c.toNat = true then skF l (i + 1) else i
def sk (S : List UInt8) (i : Nat) : Nat := skF (S.drop i) i
def numB : List UInt8 := [48, 49, 50, 51, 52, 53, 54, 55, 56, 57, 43, 45, 46, 101, 69]
def nuT (S : List UInt8) (i : Nat) : List UInt8 := (S.drop i).takeWhile (numB.contains ·)
def nuR (S : List UInt8) (i : Nat) : Rs (List Nd) :=
  if (readF (nuT S i)).2.2 = 0 then .ok [(readF (nuT S i)).1] (i + (nuT S i).length) else .bad (readF (nuT S i)).2.2 (i + (readF (nuT S i)).2.1.toNat)
def stR (S : List UInt8) (i : Nat) : Rs (List UInt8) :=
  if (unqs (S.drop i)).2.2 = 0 then .ok (unqs (S.drop i)).1 (i + (unqs (S.drop i)).2.1) else .bad (unqs (S.drop i)).2.2 (i + (unqs (S.drop i)).2.1)
def wNull : List UInt8 := [110, 117, 108, 108]
def wFalse : List UInt8 := [102, 97, 108, 115, 101]
def wTrue : List UInt8 := [116, 114, 117, 101]
def woR (S : List UInt8) (i : Nat) : Rs (List Nd) :=
  if Lib.hasPrefix (S.drop i) wNull = true then .ok [hdN 0 0] (i + 4)
  else if Lib.hasPrefix (S.drop i) wFalse = true then .ok [hdN 1 0] (i + 5)
  else if Lib.hasPrefix (S.drop i) wTrue = true then .ok [hdN 2 0] (i + 4)
  else .bad 1 i
def lpR {α β : Type} (rd : Nat → Rs α) (put : β → α → β) (S : List UInt8) (c : Nat) : Nat → Nat → β → Rs β
  | 0, i, _ => .bad 0 i
  | m + 1, i, acc => match rd i with
    | .bad e p => .bad e p
    | .ok v k => if bt S (sk S k) = c then .ok (put acc v) (sk S k + 1) else if bt S (sk S k) = 44 then lpR rd put S c m (sk S k + 1) (put acc v) else .bad 1 (sk S k)
def ptR {α β : Type} (rd : Nat → Rs α) (put : β → α → β) (zero : β) (S : List UInt8) (c j : Nat) : Rs β :=
  if bt S (sk S (j + 1)) = c then .ok zero (sk S (j + 1) + 1) else lpR rd put S c (S.length + 1) (sk S (j + 1)) zero
def fdR (rd : Nat → Rs (List Nd)) (S : List UInt8) (i : Nat) : Rs Pr :=
  match stR S (sk S i) with
  | .bad e p => .bad e p
  | .ok nm k => if bt S (sk S k) = 58 then (match rd (sk S k + 1) with
    | .bad e p => .bad e p
    | .ok v k2 => .ok (nm, v) k2) else .bad 1 (sk S k)
def snoc (acc : List (List Nd)) (v : List Nd) : List (List Nd) := acc ++ [v]
def putP (acc : List Pr) (p : Pr) : List Pr := if p.1 ∈ acc.map (·.1) then acc.map (fun q => if q.1 = p.1 then p else q) else acc ++ [p]
def mapR {α β : Type} (f : α → β) : Rs α → Rs β
  | .ok v k => .ok (f v) k
  | .bad e p => .bad e p
def liV (L : List (List Nd)) : List Nd := hdN 5 L.length :: laid (L.map fun l => ([], l))
def obV (ps : List Pr) : List Nd := objV (ps.map (·.1)) (ps.map (·.2))
def strV (s : List UInt8) : List Nd := [⟨4, 0, [], s, false, 0⟩]
def vl1 (S : List UInt8) (arr obj : Nat → Rs (List Nd)) (j : Nat) : Rs (List Nd) :=
  if bt S j = 91 then arr j else if bt S j = 123 then obj j else if bt S j = 34 then mapR strV (stR S j)
  else if bt S j = 45 ∨ 48 ≤ bt S j ∧ bt S j ≤ 57 then nuR S j else woR S j
def vlR (S : List UInt8) : Nat → Nat → Rs (List Nd)
  | 0, i => vl1 S (fun j => .bad 3 j) (fun j => .bad 3 j) (sk S i)
  | n + 1, i => vl1 S (fun j => mapR liV (ptR (vlR S n) snoc [] S 93 j)) (fun j => mapR obV (ptR (fdR (vlR S n) S) putP [] S 125 j)) (sk S i)
def prsR (S : List UInt8) : List Nd × Nat × Int :=
  match vlR S 128 0 with
  | .bad e p => ([], p, e)
  | .ok v k => if sk S k < S.length then ([], sk S k, 1) else (v, 0, 0)
theorem bt_lt {S : List UInt8} {k : Nat} (h : bt S k ≠ 0) : k < S.length := ne_of_bt h
end Tp
end Go.Proofs.YtdgcdemihalefaaGreatDoor
namespace Go.Proofs.YtdgcdemihalefaaGreatDoor
namespace Tp
open Go.RowKit Np Rw Vp Up Qp
theorem run_le (l : List UInt8) (i : Nat) : i + (Np.run l i).length ≤ max i l.length := by
  have := (List.takeWhile_prefix (l := l.drop i) fig).length_le
  rw [List.length_drop] at this
  unfold Np.run; omega
end Tp
end Go.Proofs.YtdgcdemihalefaaGreatDoor
namespace Go.Proofs.YtdgcdemihalefaaGreatDoor
namespace Tp
open Go.RowKit Np Rw Vp Up Qp
section
variable {α β : Type} {rd : Nat → Rs α} {put : β → α → β} {S : List UInt8} {c : Nat}
end
def LiP (j i : Nat) (acc : List (List Nd)) : Prop := 2 * (acc.map List.length).sum + j + 1 ≤ i ∧ acc.length ≤ (acc.map List.length).sum
theorem LiP.zero {j k : Nat} (h : j < k) : LiP j k [] := ⟨by simp; omega, by simp⟩
theorem LiP.snoc {j i k k' : Nat} {acc : List (List Nd)} {v : List Nd} (h : LiP j i acc) (hv : 1 ≤ v.length) (h2 : 2 * v.length + i ≤ k + 1) (hk : k < k') : LiP j k' (Tp.snoc acc v) := by
  obtain ⟨h3, h4⟩ := h
  unfold LiP Tp.snoc
  rw [List.map_append, List.sum_append, List.length_append]
  simp only [List.map_cons, List.map_nil, List.sum_cons, List.sum_nil, List.length_singleton]
  omega
theorem LiP.few {j i : Nat} {acc : List (List Nd)} (h : LiP j i acc) : 2 * (acc.map List.length).sum ≤ i ∧ 2 * acc.length ≤ i := by
  obtain ⟨h3, h4⟩ := h
  omega
def FdP (j i : Nat) (acc : List Pr) : Prop := 2 * (acc.map fun p => p.2.length).sum + j + 1 ≤ i ∧ 4 * acc.length + j + 1 ≤ i ∧ (acc.map (·.1)).Nodup ∧ ∀ p ∈ acc, vld p.1 = true ∧ p.1.length ≤ i
theorem FdP.zero {j k : Nat} (h : j < k) : FdP j k [] := ⟨by simp; omega, by simp; omega, by simp, by simp⟩
theorem putP_names (acc : List Pr) (p : Pr) (h : p.1 ∈ acc.map (·.1)) : (putP acc p).map (·.1) = acc.map (·.1) := by
  unfold putP
  rw [if_pos h, List.map_map]
  refine List.map_congr_left fun q _ => ?_
  simp only [Function.comp]
  split
  · rename_i e; exact e.symm
  · rfl
theorem putP_new (acc : List Pr) (p : Pr) (h : p.1 ∉ acc.map (·.1)) : putP acc p = acc ++ [p] := if_neg h
theorem sum_put (p : Pr) : ∀ acc : List Pr, (acc.map (·.1)).Nodup → ((acc.map fun q => if q.1 = p.1 then p else q).map fun q => q.2.length).sum ≤ (acc.map fun q => q.2.length).sum + p.2.length
  | [], _ => by simp
  | q :: acc, h => by
    rw [List.map_cons, List.nodup_cons] at h
    have ih := sum_put p acc h.2
    simp only [List.map_cons, List.sum_cons]
    by_cases e : q.1 = p.1
    · rw [if_pos e]
      have hk : (acc.map fun q => if q.1 = p.1 then p else q) = acc := by
        conv => rhs; rw [← List.map_id acc]
        refine List.map_congr_left fun r hr => ?_
        rw [if_neg]; rfl
        intro hr2
        exact h.1 (List.mem_map.2 ⟨r, hr, by rw [hr2, e]⟩)
      rw [hk]; omega
    · rw [if_neg e]; omega
theorem FdP.put {j i k k' : Nat} {acc : List Pr} {p : Pr} (h : FdP j i acc) (hv : vld p.1 = true) (hl : p.1.length ≤ k) (h2 : 2 * p.2.length + i ≤ k + 1) (h4 : i + 4 ≤ k) (hk : k < k') : FdP j k' (putP acc p) := by
  obtain ⟨h3, h5, h6, h7⟩ := h
  by_cases hm : p.1 ∈ acc.map (·.1)
  · have h8 := sum_put p acc h6
    have h9 := putP_names acc p hm
    refine ⟨?_, ?_, by rw [h9]; exact h6, ?_⟩
    · have e : putP acc p = acc.map fun q => if q.1 = p.1 then p else q := if_pos hm
      rw [e]; omega
    · have := congrArg List.length h9
      rw [List.length_map, List.length_map] at this
      omega
    · intro q hq
      have e : putP acc p = acc.map fun q => if q.1 = p.1 then p else q := if_pos hm
      rw [e] at hq
      obtain ⟨r, hr, hq⟩ := List.mem_map.1 hq
      split at hq
      · subst hq; exact ⟨hv, by omega⟩
      · subst hq; exact ⟨(h7 _ hr).1, by have := (h7 _ hr).2; omega⟩
  · rw [putP_new acc p hm]
    refine ⟨?_, ?_, ?_, ?_⟩
    · rw [List.map_append, List.sum_append]; simp only [List.map_cons, List.map_nil, List.sum_cons, List.sum_nil]; omega
    · rw [List.length_append, List.length_singleton]; omega
    · rw [List.map_append, List.nodup_append]
      refine ⟨h6, by simp, ?_⟩
      intro a ha b hb
      simp only [List.map_cons, List.map_nil, List.mem_singleton] at hb
      subst hb
      rintro rfl
      exact hm ha
    · intro q hq
      rcases List.mem_append.1 hq with hq | hq
      · exact ⟨(h7 q hq).1, by have := (h7 q hq).2; omega⟩
      · simp only [List.mem_singleton] at hq; subst hq; exact ⟨hv, by omega⟩
theorem FdP.few {j i : Nat} {acc : List Pr} (h : FdP j i acc) : 2 * (acc.map fun p => p.2.length).sum ≤ i ∧ 4 * acc.length ≤ i := by
  obtain ⟨h3, h4, _⟩ := h
  omega
end Tp
end Go.Proofs.YtdgcdemihalefaaGreatDoor
namespace Go.Proofs.YtdgcdemihalefaaGreatDoor
namespace Np
open Go.RowKit
def padF (f : List UInt8) (b : Nat) : List UInt8 := Lib.repeatL [48] (b + 1 - f.length) ++ f
def pointF (f : List UInt8) (b : Nat) : List UInt8 := (padF f b).take ((padF f b).length - b) ++ 46 :: (padF f b).drop ((padF f b).length - b)
def printS (f : List UInt8) (e : Int) : List UInt8 :=
  if f.isEmpty = true then [48] else if 0 ≤ e ∧ e ≤ 20 - f.length then f ++ Lib.repeatL [48] e.toNat
  else if -20 ≤ e ∧ e ≤ -1 then pointF f (-e).toNat else f ++ 101 :: Lib.itoa e
def printN (f : List UInt8) (g : Bool) (e : Int) : List UInt8 := if g = true then 45 :: printS f e else printS f e
theorem padF_long {f : List UInt8} {b : Nat} (h : b < f.length) : padF f b = f := by
  unfold padF; rw [show b + 1 - f.length = 0 by omega]; rfl
theorem padF_len (f : List UInt8) (b : Nat) : b < (padF f b).length := by
  unfold padF; rw [List.length_append, Lib.repeatL_length]; simp; omega
theorem padF_le (f : List UInt8) (b : Nat) : (padF f b).length ≤ f.length + b + 1 := by
  unfold padF; rw [List.length_append, Lib.repeatL_length]; simp; omega
theorem printS_len (f : List UInt8) (e : Int) (hf : f.length ≤ 1000000) (he : -1000000 ≤ e) (he2 : e ≤ 1000000) : (printS f e).length ≤ 1000100 := by
  unfold printS
  split
  · simp
  split
  · rw [List.length_append, Lib.repeatL_length]; simp; omega
  split
  · have h := padF_le f (-e).toNat
    have h2 := padF_len f (-e).toNat
    unfold pointF
    simp only [List.length_append, List.length_take, List.length_cons, List.length_drop]
    omega
  · have := Lib.itoa_length_le e (by omega) (by omega)
    simp only [List.length_append, List.length_cons]
    omega
end Np
end Go.Proofs.YtdgcdemihalefaaGreatDoor
namespace Go.Proofs.YtdgcdemihalefaaGreatDoor
namespace Tp
open Go.RowKit Np Rw Vp Up Qp
def prL (ln : Bool) (d : Nat) : List UInt8 := if ln = true then 10 :: List.replicate (2 * d) 32 else []
def prN (ln : Bool) (nm : List UInt8) : List UInt8 := quo nm ++ (58 :: if ln = true then [32] else [])
def wordT (k : Int) : List UInt8 := if k = 0 then wNull else if k = 1 then wFalse else wTrue
def scT (n : Nd) : List UInt8 := if n.kind = 0 ∨ n.kind = 1 ∨ n.kind = 2 then wordT n.kind else if n.kind = 3 then printN n.s n.neg n.e else quo n.s
mutual
def prT (ln : Bool) (d : Nat) : Tr Nd → List UInt8
  | .mk n ks => if n.kind = 5 then 91 :: (prB ln d false ks ++ [93]) else if n.kind = 6 then 123 :: (prB ln d true ks ++ [125]) else scT n
def prB (ln : Bool) (d : Nat) (ob : Bool) : List (Tr Nd) → List UInt8
  | [] => []
  | t :: ts => prL ln (d + 1) ++ (if ob = true then prN ln t.nd.name else []) ++ prT ln (d + 1) t ++ prK ln d ob ts
def prK (ln : Bool) (d : Nat) (ob : Bool) : List (Tr Nd) → List UInt8
  | [] => prL ln d
  | t :: ts => 44 :: (prL ln (d + 1) ++ (if ob = true then prN ln t.nd.name else []) ++ prT ln (d + 1) t ++ prK ln d ob ts)
end
theorem prT_mk (ln : Bool) (d : Nat) (n : Nd) (ks : List (Tr Nd)) : prT ln d (.mk n ks) = if n.kind = 5 then 91 :: (prB ln d false ks ++ [93]) else if n.kind = 6 then 123 :: (prB ln d true ks ++ [125]) else scT n := by rw [prT]
theorem prB_nil (ln : Bool) (d : Nat) (ob : Bool) : prB ln d ob [] = [] := by rw [prB]
theorem prB_cons (ln : Bool) (d : Nat) (ob : Bool) (t : Tr Nd) (ts : List (Tr Nd)) : prB ln d ob (t :: ts) = prL ln (d + 1) ++ (if ob = true then prN ln t.nd.name else []) ++ prT ln (d + 1) t ++ prK ln d ob ts := by rw [prB]
theorem prK_nil (ln : Bool) (d : Nat) (ob : Bool) : prK ln d ob [] = prL ln d := by rw [prK]
theorem prK_cons (ln : Bool) (d : Nat) (ob : Bool) (t : Tr Nd) (ts : List (Tr Nd)) : prK ln d ob (t :: ts) = 44 :: (prL ln (d + 1) ++ (if ob = true then prN ln t.nd.name else []) ++ prT ln (d + 1) t ++ prK ln d ob ts) := by rw [prK]
end Tp
end Go.Proofs.YtdgcdemihalefaaGreatDoor
namespace Go.Proofs.YtdgcdemihalefaaGreatDoor
namespace Fw
open Go.RowKit Np Rw Vp Pw Up Qp Tp
def fieldT (s : List UInt8) : List UInt8 := textP [⟨false, s, 0⟩]
def nameT (s : List UInt8) : List UInt8 := (fieldT s).drop 1
theorem fieldT_eq (s : List UInt8) : fieldT s = 46 :: (if isW s then s else quo s) := by
  unfold fieldT textP headT stT
  simp
  split <;> rfl
theorem nameT_eq (s : List UInt8) : nameT s = if isW s then s else quo s := by unfold nameT; rw [fieldT_eq]; rfl
def signT (n : Int) : List UInt8 := if n = 0 then [61, 61] else if n = 1 then [33, 61] else if n = 2 then [60] else if n = 3 then [60, 61] else if n = 4 then [62] else if n = 5 then [62, 61] else []
def constT (c : Nd) : List UInt8 := prT false 0 (.mk c [])
def aheadT (t : Tm) : List UInt8 :=
  if t.op = 0 then [46]
  else if t.op = 1 then fieldT t.s
  else if t.op = 2 then [46, 91] ++ (Lib.itoa t.n ++ [93])
  else if t.op = 3 then [46, 91] ++ (Lib.itoa t.n ++ [58, 93])
  else if t.op = 4 then []
  else if t.op = 5 then [109, 97, 112, 40]
  else if t.op = 6 then [109, 97, 112, 95, 118, 97, 108, 117, 101, 115, 40]
  else if t.op = 7 then [115, 101, 108, 101, 99, 116, 40]
  else if t.op = 8 then [123]
  else if t.op = 9 then [91]
  else if t.op = 10 then [116, 111, 95, 101, 110, 116, 114, 105, 101, 115]
  else if t.op = 11 then [102, 114, 111, 109, 95, 101, 110, 116, 114, 105, 101, 115]
  else if t.op = 12 then [103, 114, 111, 117, 112, 95, 98, 121, 40] ++ (t.s ++ [41])
  else if t.op = 13 then [115, 111, 114, 116, 95, 98, 121, 40] ++ (t.s ++ [41])
  else if t.op = 14 then [114, 101, 118, 101, 114, 115, 101]
  else if t.op = 15 then [100, 101, 108, 40] ++ (t.s ++ [41])
  else if t.op = 16 then t.s ++ (32 :: (signT t.n ++ (32 :: constT t.c)))
  else if t.op = 17 then []
  else if t.op = 18 then []
  else if t.op = 19 then [40]
  else []
def betweenT (op : Int) : List UInt8 :=
  if op = 4 then [32, 124, 32]
  else if op = 8 then [44, 32]
  else if op = 9 then [44, 32]
  else if op = 17 then [32, 97, 110, 100, 32]
  else if op = 18 then [32, 111, 114, 32]
  else []
def behindT (op : Int) : List UInt8 :=
  if op = 5 then [41]
  else if op = 6 then [41]
  else if op = 7 then [41]
  else if op = 8 then [125]
  else if op = 9 then [93]
  else if op = 19 then [32, 124, 32, 110, 111, 116, 41]
  else []
def brk (of_ op : Int) : Bool := if of_ = 8 ∨ of_ = 9 then decide (op = 4) else if of_ = 17 ∨ of_ = 18 then decide (op = 17 ∨ op = 18) else false
def preT (op : Int) (first : Bool) (name : List UInt8) : List UInt8 := (if first then [] else betweenT op) ++ (if op = 8 then nameT name ++ [58, 32] else [])
mutual
def txF : Tr Tm → List UInt8
  | .mk t ks => aheadT t ++ (txK t.op true ks ++ behindT t.op)
def txK (op : Int) (first : Bool) : List (Tr Tm) → List UInt8
  | [] => []
  | k :: ks => preT op first k.nd.name ++ ((if brk op k.nd.op then 40 :: (txF k ++ [41]) else txF k) ++ txK op false ks)
end
theorem txF_mk (t : Tm) (ks : List (Tr Tm)) : txF (.mk t ks) = aheadT t ++ (txK t.op true ks ++ behindT t.op) := by rw [txF]
theorem txF_eq (t : Tr Tm) : txF t = aheadT t.nd ++ (txK t.nd.op true t.ks ++ behindT t.nd.op) := by cases t; rw [txF]; rfl
@[simp] theorem txK_nil (op : Int) (first : Bool) : txK op first [] = [] := by rw [txK]
theorem txK_cons (op : Int) (first : Bool) (k : Tr Tm) (ks : List (Tr Tm)) : txK op first (k :: ks) = preT op first k.nd.name ++ ((if brk op k.nd.op then 40 :: (txF k ++ [41]) else txF k) ++ txK op false ks) := by rw [txK]
theorem txF_clr (t : Tr Tm) : txF (clrF t) = txF t := by rw [txF_eq, txF_eq t]; rfl
end Fw
end Go.Proofs.YtdgcdemihalefaaGreatDoor
namespace Go.Proofs.YtdgcdemihalefaaGreatDoor
open Go.RowKit Np
end Go.Proofs.YtdgcdemihalefaaGreatDoor
namespace Go.Proofs.YtdgcdemihalefaaGreatDoor
open Go.RowKit Np
theorem tab_below {n : String} {g : Nat} {k : IntKind} {zs : List Int} {w w' : World} (hg : Tryz.prog.globalNamed n = some g) (h : Lib.TabIs Tryz.prog w n k zs) (hb : Below w.heap.size w w') : Lib.TabIs Tryz.prog w' n k zs := by
  unfold Lib.TabIs World.var? at h ⊢
  simp only [hg, Option.bind_some] at h ⊢
  by_cases hlt : g < w.heap.size
  · rw [hb.block g hlt]; exact h
  · rw [Array.getElem?_eq_none (by omega)] at h; cases h
theorem grow_below' (w : World) (q : Nat) (os : Array Obj) : Below w.heap.size w (Sort.grow (w.drewN q) os) :=
  ⟨rfl, rfl, rfl, by simp [Sort.grow], fun i hi => by
    show (w.heap ++ os)[i]? = w.heap[i]?
    exact Array.getElem?_append_left hi⟩
theorem powTab : Tryz.prog.globalNamed "internal/strconv.uint64pow10" = some 4 := by kernel_rfl
def PowTab (w : World) : Prop := Lib.TabIs Tryz.prog w "internal/strconv.uint64pow10" .u64 Lib.pow10Tab
theorem PowTab.below {w w' : World} (h : PowTab w) (hb : Below w.heap.size w w') : PowTab w' := tab_below powTab h hb
theorem repeat_int (n : Int) (w : World) (h0 : 0 ≤ n) (h1 : n ≤ 1000000) :
    Calls Tryz.prog 254 #[.string ⟨#[48]⟩, .int .i64 n] w fun e w' => e = .returned (.string ⟨(Lib.repeatL [48] n.toNat).toArray⟩) ∧ Below w.heap.size w w' := by
  obtain ⟨c, rfl⟩ := Int.eq_ofNat_of_zero_le h0
  exact Tryz.strings_Repeat ⟨#[48]⟩ c w (by omega) (by show 1 * c ≤ _; omega)
set_option maxHeartbeats 1000000 in
theorem printPoint_any (f : ByteArray) (b : Nat) (w : World) (hf : f.size ≤ 1000000) (hb0 : 1 ≤ b) (hb1 : b ≤ 20) :
    Calls Tryz.prog 255 #[.string f, .int .i64 b] w fun e w' => e = .returned (.string ⟨(pointF f.data.toList b).toArray⟩) ∧ Below w.heap.size w w' := by
  have hB : Below w.heap.size w w := Below.refl _ _
  have hpl := padF_len f.data.toList b
  have hpu := padF_le f.data.toList b
  have HP : Hid (padF f.data.toList b = Lib.repeatL [48] (b + 1 - f.size) ++ f.data.toList) := Lib.hid (by rw [padF, size_toList])
  have HQ : Hid (pointF f.data.toList b = (padF f.data.toList b).take ((padF f.data.toList b).length - b) ++ 46 :: (padF f.data.toList b).drop ((padF f.data.toList b).length - b)) := Lib.hid rfl
  have HL : Hid (b < f.size → padF f.data.toList b = f.data.toList) := Lib.hid (fun h => padF_long (by rw [size_toList]; exact h))
  rw [size_toList] at hpu
  generalize padF f.data.toList b = pd at *
  go_enter Tryz.func255, Tryz.ntmps255
  go_upto_if 13 with fail
  go_cut [0] (fun s0 wx => s0 = .string ⟨pd.toArray⟩ ∧ Below w.heap.size w wx)
  case first =>
    by_cases hl : f.size ≤ b
    · go_wp2_with fail
      refine (repeat_int _ _ (by omega) (by omega)).mono ?_
      rintro e w1 ⟨rfl, hb⟩
      have hrl : (Lib.repeatL [48] ((b : Int) + 1 - f.size).toNat).length ≤ 21 := by rw [Lib.repeatL_length]; simp; omega
      have HR : Hid (Lib.repeatL [48] ((b : Int) + 1 - f.size).toNat = Lib.repeatL [48] (b + 1 - f.size)) := Lib.hid (by rw [show ((b : Int) + 1 - f.size).toNat = b + 1 - f.size by omega])
      generalize Lib.repeatL [48] ((b : Int) + 1 - f.size).toNat = rp at hrl HR ⊢
      go_wp2_with fail
      go_meet
      refine ⟨?_, hb⟩
      rw [HP.out, ← HR.out]
      exact congrArg Value.string (ByteArray.ext (by simp))
    · have HV := Lib.hid (HL.out (by omega))
      go_wp2_with fail
      go_meet
      refine ⟨?_, hB⟩
      rw [HV.out]
  case rest =>
    obtain ⟨rfl, hBc⟩ := hcut
    go_wp2_with fail
    have hp1 : pd.length - b ≤ pd.length := by omega
    have hp2 : ((pd.length : Int) - b) = ((pd.length - b : Nat) : Int) := by omega
    rw [hp2]
    clear hp2
    generalize pd.length - b = p at *
    go_quiet (fail)
    go_wp2_with fail
    go_ret
    refine ⟨ret_str (a := (ByteArray.mk pd.toArray).extract 0 p ++ ByteArray.mk #[46] ++ (ByteArray.mk pd.toArray).extract p pd.length) ?_, ⟨hBc.os, hBc.tape, hBc.output, hBc.size, hBc.block⟩⟩
    rw [HQ.out, extract_run (ByteArray.mk pd.toArray) 0 p (pd.take p) (by simp), extract_run (ByteArray.mk pd.toArray) p pd.length (pd.drop p) (by show pd.drop p = _; exact (List.take_of_length_le (by simp)).symm)]
    exact ByteArray.ext (by simp)
theorem itoa_any (n : Int) (w : World) (hT : PowTab w) (h0 : -1000000 ≤ n) (h1 : n ≤ 1000000) :
    Calls Tryz.prog 95 #[.int .i64 n] w fun e w' => e = .returned (.string ⟨(Lib.itoa n).toArray⟩) ∧ Below w.heap.size w w' :=
  (Tryz.strconv_Itoa n (by omega) (by omega) w hT).mono fun _ _ ⟨he, k, os, hw⟩ => ⟨he, hw ▸ grow_below' w k os⟩
theorem printPoint_int (f : ByteArray) (n : Int) (w : World) (hf : f.size ≤ 1000000) (h0 : 1 ≤ n) (h1 : n ≤ 20) :
    Calls Tryz.prog 255 #[.string f, .int .i64 n] w fun e w' => e = .returned (.string ⟨(pointF f.data.toList n.toNat).toArray⟩) ∧ Below w.heap.size w w' := by
  obtain ⟨c, rfl⟩ := Int.eq_ofNat_of_zero_le (show 0 ≤ n by omega)
  exact printPoint_any f c w hf (by omega) (by omega)
set_option maxHeartbeats 1000000 in
theorem printSize_any (f : ByteArray) (e : Int) (w : World) (hT : PowTab w) (hf : f.size ≤ 1000000) (he : -1000000 ≤ e) (he2 : e ≤ 1000000) :
    Calls Tryz.prog 218 #[.string f, .int .i64 e] w fun x w' => x = .returned (.string ⟨(printS f.data.toList e).toArray⟩) ∧ Below w.heap.size w w' := by
  have hB : Below w.heap.size w w := Below.refl _ _
  cases hne : f.data.toList.isEmpty
  · have hne2 : f.toList.isEmpty = false := by rw [ByteArray.toList_eq]; exact hne
    have HV : Hid (printS f.data.toList e = if 0 ≤ e ∧ e ≤ 20 - f.size then f.data.toList ++ Lib.repeatL [48] e.toNat
      else if -20 ≤ e ∧ e ≤ -1 then pointF f.data.toList (-e).toNat else f.data.toList ++ 101 :: Lib.itoa e) := Lib.hid (by rw [printS, if_neg (by rw [hne]; decide), size_toList])
    clear hne
    by_cases h1 : 0 ≤ e ∧ e ≤ 20 - f.size
    · have HW := Lib.hid (HV.out.trans (if_pos h1))
      obtain ⟨h1, h2⟩ := h1
      go_enter Tryz.func218, Tryz.ntmps218
      go_wp2_with fail
      refine (repeat_int _ _ (by omega) (by omega)).mono ?_
      rintro x w1 ⟨rfl, hb⟩
      have hrl : (Lib.repeatL [48] e.toNat).length ≤ 21 := by rw [Lib.repeatL_length]; simp; omega
      generalize Lib.repeatL [48] e.toNat = rp at HW hrl ⊢
      go_wp2_with fail
      go_ret
      refine ⟨ret_str (a := f ++ ByteArray.mk rp.toArray) ?_, hb⟩
      rw [HW.out]
      exact ByteArray.ext (by simp)
    · have HW := Lib.hid (HV.out.trans (if_neg h1))
      by_cases h2 : -20 ≤ e ∧ e ≤ -1
      · have HX := Lib.hid (HW.out.trans (if_pos h2))
        clear h1
        obtain ⟨h2, h3⟩ := h2
        have h4 : decide (0 ≤ e) = false := by simp; omega
        go_enter Tryz.func218, Tryz.ntmps218
        go_wp2_with fail
        refine (printPoint_int _ _ _ hf (by omega) (by omega)).mono ?_
        rintro x w1 ⟨rfl, hb⟩
        go_wp2_with fail
        go_ret
        exact ⟨ret_str (by rw [HX.out]), hb⟩
      · have HX := Lib.hid (HW.out.trans (if_neg h2))
        by_cases h0 : 0 ≤ e
        · have h3 : decide (e ≤ 20 - f.size) = false := by simp; omega
          have h4 : decide (e ≤ -1) = false := by simp; omega
          clear h1 h2
          go_enter Tryz.func218, Tryz.ntmps218
          go_wp2_with fail
          refine (itoa_any _ _ hT (by omega) (by omega)).mono ?_
          rintro x w1 ⟨rfl, hb⟩
          have hil := Lib.itoa_length_le e (by omega) (by omega)
          generalize Lib.itoa e = it at HX hil ⊢
          go_wp2_with fail
          go_ret
          refine ⟨ret_str (a := f ++ ByteArray.mk #[101] ++ ByteArray.mk it.toArray) ?_, hb⟩
          rw [HX.out]
          exact ByteArray.ext (by simp)
        · have h3 : decide (0 ≤ e) = false := by simp; omega
          have h4 : decide (-20 ≤ e) = false := by simp; omega
          clear h1 h2
          go_enter Tryz.func218, Tryz.ntmps218
          go_wp2_with fail
          refine (itoa_any _ _ hT (by omega) (by omega)).mono ?_
          rintro x w1 ⟨rfl, hb⟩
          have hil := Lib.itoa_length_le e (by omega) (by omega)
          generalize Lib.itoa e = it at HX hil ⊢
          go_wp2_with fail
          go_ret
          refine ⟨ret_str (a := f ++ ByteArray.mk #[101] ++ ByteArray.mk it.toArray) ?_, hb⟩
          rw [HX.out]
          exact ByteArray.ext (by simp)
  · have hne2 : f.toList.isEmpty = true := by rw [ByteArray.toList_eq]; exact hne
    have HV : Hid (printS f.data.toList e = [48]) := Lib.hid (by rw [printS, if_pos hne])
    clear hne
    go_enter Tryz.func218, Tryz.ntmps218
    go_wp2_with fail
    go_ret
    exact ⟨ret_str (a := ⟨#[48]⟩) (by rw [HV.out]), hB⟩
set_option maxHeartbeats 1000000 in
theorem print_any (k m : Int) (nm s : ByteArray) (g : Bool) (x : Int) (w : World) (hT : PowTab w) (hs : s.size ≤ 1000000) (hx : -1000000 ≤ x) (hx' : x ≤ 1000000) :
    Calls Tryz.prog 195 #[.agg #[.int .i64 k, .int .i64 m, .string nm, .string s, .bool g, .int .i64 x]] w
      fun e w' => e = .returned (.string ⟨(printN s.data.toList g x).toArray⟩) ∧ Below w.heap.size w w' := by
  have hB : Below w.heap.size w w := Below.refl _ _
  have hT1 := fun o => hT.below (hB.alloc (Nat.le_refl _) o)
  cases g
  · have HV : Hid (printN s.data.toList false x = printS s.data.toList x) := Lib.hid rfl
    go_enter Tryz.func195, Tryz.ntmps195
    go_wp2_with fail
    refine (printSize_any _ _ _ (hT1 _) hs hx hx').mono ?_
    rintro e w1 ⟨rfl, hb⟩
    go_wp2_with fail
    go_ret
    exact ⟨ret_str (by rw [HV.out]), (hB.alloc (Nat.le_refl _) _).trans (hb.mono (by simp))⟩
  · have HV : Hid (printN s.data.toList true x = 45 :: printS s.data.toList x) := Lib.hid rfl
    go_enter Tryz.func195, Tryz.ntmps195
    go_wp2_with fail
    refine (printSize_any _ _ _ (hT1 _) hs hx hx').mono ?_
    rintro e w1 ⟨rfl, hb⟩
    have hpl := printS_len s.data.toList x (by rw [size_toList]; exact hs) hx hx'
    generalize printS s.data.toList x = t at HV hpl ⊢
    go_wp2_with fail
    go_ret
    refine ⟨ret_str (a := ByteArray.mk #[45] ++ ByteArray.mk t.toArray) ?_, (hB.alloc (Nat.le_refl _) _).trans (hb.mono (by simp))⟩
    rw [HV.out]
    exact ByteArray.ext (by simp)
end Go.Proofs.YtdgcdemihalefaaGreatDoor
namespace Go.Proofs.YtdgcdemihalefaaGreatDoor
open Go.RowKit Np Rw Vp Up Qp Tp
theorem Pk.of {b : Nat} {w w' : World} (h : Below w.heap.size w w') (hb : b ≤ w.heap.size) : Pk b w w' :=
  ⟨h.mono hb, fun k _ hk _ _ => (h.block k (Array.getElem?_eq_some_iff.1 hk).1).trans hk⟩
set_option maxRecDepth 100000 in
set_option maxHeartbeats 2000000 in
theorem line_any (b : Nat) (ln : Bool) (d : Nat) (L : List UInt8) (w : World) (h : Emb b ln d L w) (hd : d ≤ 1000) (hL : L.length ≤ 100000000) :
    Calls Tryz.prog 222 #[.pointer (some ⟨b, 0, none⟩)] w fun e w' => e = .returned (.tuple #[]) ∧ Emb b ln d (L ++ prL ln d) w' ∧ Pk b w w' := by
  have H := Lib.hid h
  have c2 := h.c2
  clear h
  cases ln with
  | false =>
    go_enter Tryz.func222, Tryz.ntmps222
    go_wp2_with fail
    refine bodyPost_ret (results_none rfl _ _ _) rfl ?_
    exact ⟨rfl, by rw [show prL false d = [] from rfl, List.append_nil]; exact H.out, Pk.refl _ _⟩
  | true =>
    have HW := Lib.hid (embByte b true d L 10 w H.out (by omega))
    go_enter Tryz.func222, Tryz.ntmps222
    go_wp2_with (go_at_call 100; refine HW.out.mono ?_; rintro e w1 ⟨rfl, h1, hk1⟩; have d3 := h1.c3; have HE1 := Lib.hid h1; have HK1 := Lib.hid hk1; clear h1 hk1)
    go_loopw [15] (fun iv wr => ∃ k : Nat, k ≤ d ∧ iv = .int .i64 k ∧ Hid (Emb b true d (L ++ 10 :: List.replicate (2 * k) 32) wr) ∧ Hid (Pk b w wr)) (fun iv _ => d - (intOf iv).toNat)
    case atStart => exact ⟨0, Nat.zero_le _, rfl, HE1, HK1⟩
    case round =>
      obtain ⟨k, hk, rfl, HE, HK⟩ := hrel
      by_cases hlt : k < d
      · have HS := Lib.hid (embString b true d (L ++ 10 :: List.replicate (2 * k) 32) ⟨#[32, 32]⟩ wr HE.out (by show (L ++ 10 :: List.replicate (2 * k) 32).length + 2 ≤ _; simp; omega))
        go_wp2_with (go_at_call 63; refine HS.out.mono ?_; rintro e w2 ⟨rfl, h2, hk2⟩)
        go_roundw
        case rel =>
          refine ⟨k + 1, by omega, by go_num, Lib.hid ?_, Lib.hid (HK.out.trans hk2)⟩
          have e : L ++ 10 :: List.replicate (2 * k) 32 ++ (ByteArray.mk #[32, 32]).data.toList = L ++ 10 :: List.replicate (2 * (k + 1)) 32 := by
            rw [show 2 * (k + 1) = 2 * k + 2 by omega, ← List.replicate_append_replicate, List.append_assoc, List.cons_append]; rfl
          rw [← e]; exact h2
        case measure => simp [intOf]; omega
      · have hkd : k = d := by omega
        subst hkd
        go_wp2_with fail
        go_end0
        exact ⟨rfl, HE.out, HK.out⟩
set_option maxRecDepth 100000 in
set_option maxHeartbeats 2000000 in
theorem name_any (b : Nat) (ln : Bool) (d : Int) (L nm : List UInt8) (w : World) (h : Emb b ln d L w) (hn : nm.length ≤ 1000000) (hL : L.length ≤ 100000000) (hq : (quo nm).length ≤ 100000000) :
    Calls Tryz.prog 223 #[.pointer (some ⟨b, 0, none⟩), .string ⟨nm.toArray⟩] w fun e w' => e = .returned (.tuple #[]) ∧ Emb b ln d (L ++ prN ln nm) w' ∧ Pk b w w' := by
  have HQ : Hid (∀ W, Calls Tryz.prog 196 #[.string ⟨nm.toArray⟩] W fun e w' => e = .returned (.string ⟨(quo nm).toArray⟩) ∧ Below W.heap.size W w') := Lib.hid (fun W => quote_any ⟨nm.toArray⟩ W (by rw [mk_size]; omega))
  have HS : Hid (∀ W, Emb b ln d L W → Calls Tryz.prog 63 #[.pointer (some ⟨b, 0, none⟩), .string ⟨(quo nm).toArray⟩] W fun e w' => e = .returned (.tuple #[.int .i64 (ByteArray.mk (quo nm).toArray).size, .nilIface]) ∧ Emb b ln d (L ++ quo nm) w' ∧ Pk b W w') := Lib.hid (fun W h => embString b ln d L ⟨(quo nm).toArray⟩ W h (by rw [mk_size]; omega))
  have HB : Hid (∀ W, Emb b ln d (L ++ quo nm) W → Calls Tryz.prog 100 #[.pointer (some ⟨b, 0, none⟩), .int .u8 58] W fun e w' => e = .returned .nilIface ∧ Emb b ln d (L ++ quo nm ++ [58]) w' ∧ Pk b W w') := Lib.hid (fun W h => embByte b ln d _ 58 W h (by simp; omega))
  have HC : Hid (∀ W, Emb b ln d (L ++ quo nm ++ [58]) W → Calls Tryz.prog 100 #[.pointer (some ⟨b, 0, none⟩), .int .u8 32] W fun e w' => e = .returned .nilIface ∧ Emb b ln d (L ++ quo nm ++ [58] ++ [32]) w' ∧ Pk b W w') := Lib.hid (fun W h => embByte b ln d _ 32 W h (by simp; omega))
  have H := Lib.hid h
  have HX : Hid (L ++ prN ln nm = if ln = true then L ++ quo nm ++ [58] ++ [32] else L ++ quo nm ++ [58]) := Lib.hid (by unfold prN; cases ln <;> simp)
  clear h
  generalize quo nm = q at *
  go_enter Tryz.func223, Tryz.ntmps223
  go_upto_region 0 with fail
  go_cut [] from 4 to 9 (fun wx => Emb b ln d (L ++ q) wx ∧ Pk b w wx)
  case first =>
    go_region_with (first
      | (go_at_call 196; refine (HQ.out w.drew).mono ?_; rintro e w1 ⟨rfl, hb1⟩; have HE1 := Lib.hid ((H.out.drew).below hb1); have HL1 := Lib.hid hb1; clear hb1)
      | (go_at_call 63; refine (HS.out w1 HE1.out).mono ?_; rintro e w2 ⟨rfl, h2, hk2⟩))
    all_goals go_wp2_with fail
    all_goals go_meet
    all_goals exact ⟨h2, ((Pk.refl b w).drew.trans (Pk.of HL1.out (Nat.le_of_lt H.out.lt))).trans hk2⟩
  case rest =>
    obtain ⟨h2, hk2⟩ := hcut
    have HE2 := Lib.hid h2
    have HK2 := Lib.hid hk2
    clear h2 hk2 HQ HS H
    cases ln with
    | false =>
      go_wp2_with (go_at_call 100; refine (HB.out _ HE2.out).mono ?_; rintro e w3 ⟨rfl, h3, hk3⟩; have d2 := h3.c2; have HE3 := Lib.hid h3; have HK3 := Lib.hid hk3; clear h3 hk3)
      go_end0
      exact ⟨rfl, by rw [HX.out]; exact HE3.out, HK2.out.trans HK3.out⟩
    | true =>
      go_wp2_with (first
        | (go_at_call_of 100 (58 : Int); refine (HB.out _ HE2.out).mono ?_; rintro e w3 ⟨rfl, h3, hk3⟩; have d2 := h3.c2; have HE3 := Lib.hid h3; have HK3 := Lib.hid hk3; clear h3 hk3)
        | (go_at_call_of 100 (32 : Int); refine (HC.out _ HE3.out).mono ?_; rintro e w4 ⟨rfl, h4, hk4⟩))
      go_end0
      exact ⟨rfl, by rw [HX.out]; exact h4, (HK2.out.trans HK3.out).trans hk4⟩
end Go.Proofs.YtdgcdemihalefaaGreatDoor
