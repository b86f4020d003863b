/-
  The iterator that Walk hands back: the walk of an order goes through the walk of the order below once for each part.
-/
import Derived.Test.YtlfdlifmcabfjaaCvX
import Derived.Test.YtlfdlifmcabfjaaCvB
import Derived.Sort.CutIn
namespace Go.Proofs.Ytlfdlifmcabfjaa
open Go.RowKit Go.Shelf
set_option linter.unusedVariables false
set_option linter.unusedSimpArgs false
attribute [local go_sem] Oper.semAt_some

/-- The points of the square of order n. -/
abbrev SQ (n : Nat) := { p : Int × Int // InSq n p }
def encC {n : Nat} (x : SQ n) : Array Value := #[CX x.1.1 x.1.2]
theorem dig4 (k : Nat) : ((k % 4 : Nat) : Int) = 0 ∨ ((k % 4 : Nat) : Int) = 1 ∨ ((k % 4 : Nat) : Int) = 2 ∨ ((k % 4 : Nat) : Int) = 3 := by omega
/-- A point in the k-th part. -/
def seg (n k : Nat) (x : SQ n) : SQ (n + 1) := ⟨layP (2 ^ n) ((k % 4 : Nat) : Int) x.1, lay_sq n _ x.1 x.2 (dig4 k)⟩
def segs (n : Nat) (l : List (SQ n)) : Nat → List (SQ (n + 1))
  | 0 => []
  | k + 1 => segs n l k ++ l.map (seg n k)
def wlk : (n : Nat) → List (SQ n)
  | 0 => [⟨(0, 0), by simp [InSq]⟩]
  | n + 1 => segs n (wlk n) 4
theorem segs_len (n : Nat) (l : List (SQ n)) : ∀ k, (segs n l k).length = k * l.length
  | 0 => by simp [segs]
  | k + 1 => by simp [segs, segs_len n l k, Nat.succ_mul]
theorem wlk_len : ∀ n, (wlk n).length = 4 ^ n
  | 0 => rfl
  | n + 1 => by simp only [wlk]; rw [segs_len, wlk_len n, Nat.pow_succ]; omega
/-- What holds while points are told: l the loop, W0 where the iterator began. -/
structure Tc (n l : Nat) (P : Nat → Prop) (U : World → Nat → Prop) (N : Nat) (J Jx : List (SQ n) → World → Prop) (W0 : World) : Prop where
  stab : Stab W0.heap.size U
  own : OwnFrom W0.heap.size J
  ownx : OwnFrom W0.heap.size Jx
  plt : ∀ k, P k → k < W0.heap.size
  ul : ∀ k, U W0 k → k < W0.heap.size
  yld : ∀ (m : Nat) pre x W1, J pre W1 → pre.length < N → W0.heap.size ≤ W1.heap.size → YieldAt Fence.wide m Try.prog l (encC x) W1 fun e W' => RK W0.heap.size U W1 W' ∧
      ((e = .returned (.bool true) ∧ J (pre ++ [x]) W' ∧ Kpt P W1 W') ∨ (e = .returned (.bool false) ∧ Jx (pre ++ [x]) W'))
theorem Tc.grow {n l : Nat} {P : Nat → Prop} {U : World → Nat → Prop} {N : Nat} {J Jx : List (SQ n) → World → Prop} {W0 V V' : World} (h : Tc n l P U N J Jx W0) {pre : List (SQ n)} (hj : J pre V) (hb : Below V.heap.size V V') : J pre V' :=
  h.own _ _ _ none hj (grown_of_below hb) (fun r e => by cases e)
def boxN (n : Int) : Obj := .cells #[.int .i64 n] 3
theorem walkC (n : Int) (w : World) : Calls Try.prog 34 #[.int .i64 n] w fun e w' => e = .returned (.func (.func 43) #[] #[.pointer (some ⟨w.heap.size, 0, none⟩)]) ∧ w' = w.alloc (.cells #[.int .i64 n] 3) := by
  go_enter Try.func34, Try.ntmps34
  go_wp2
  go_ret
  exact ⟨rfl, rfl⟩
/-- What walk$1 promises at the order n. -/
def WalkP (n : Nat) : Prop := ∀ (m l B : Nat) (P : Nat → Prop) (U : World → Nat → Prop) (J Jx : List (SQ n) → World → Prop) (W0 : World), Tc n l P U (wlk n).length J Jx W0 → P B →
    W0.heap[B]? = some (.cells #[.int .i64 (n : Int)] 3) → J [] W0 →
    CallsIn Fence.wide m Try.prog 43 #[.func (.yield l) #[] #[], .pointer (some ⟨B, 0, none⟩)] W0 fun e W' => (∃ v, e = .returned v) ∧ ((∃ ys, ys = wlk n ∧ J ys W') ∨ (∃ pre, pre <+: wlk n ∧ Jx pre W'))
set_option maxRecDepth 100000 in
set_option maxHeartbeats 4000000 in
theorem walk_zero : WalkP 0 := by
  intro m l B P U J Jx W0 tc hPB hB h0
  have bA : Below W0.heap.size W0 (W0.alloc (.cells #[.func (.yield l) #[] #[]] 73)) := (Below.refl _ _).alloc (Nat.le_refl _) _
  have hBl := blk_lt hB
  have b0 := blk_cell hB (j := 0) rfl
  have hne : ¬ B = W0.heap.size := by omega
  have HJ := tc.grow h0 bA
  obtain ⟨fn, tmps, assign, body, hy, hR⟩ := tc.yld (m - 1) [] ⟨(0, 0), by simp [InSq]⟩ _ HJ (by simp [wlk]) bA.size
  dsimp only [encC, CX] at hy
  rw [fl0] at hy
  have hR2 := hR.mono (R' := fun e V' => ∃ b, e = .returned (.bool b) ∧ Hid ((∃ ys, ys = wlk 0 ∧ J ys V') ∨ (∃ pre, pre <+: wlk 0 ∧ Jx pre V'))) (by
    rintro e V4 ⟨_, ⟨rfl, j4, k4⟩ | ⟨rfl, jx⟩⟩
    · exact ⟨true, rfl, .inl ⟨_, rfl, j4⟩⟩
    · exact ⟨false, rfl, .inr ⟨_, List.prefix_refl _, jx⟩⟩)
  clear bA HJ hR h0 hB tc
  refine callsIn_of_wp Try.func43 rfl trivial ?_ rfl
  simp only [Try.ntmps43, List.size_toArray, List.length_cons, List.length_nil, Nat.reduceAdd, Nat.reduceSub, Array.replicate_succ, Array.replicate_zero, List.push_toArray, List.append_toArray, List.nil_append, List.cons_append]
  gi_wp2_with (fail)
  refine ⟨fun h => (by simp [Fence.wide] at h), hR2.mono ?_⟩
  rintro e V4 ⟨b, rfl, hf⟩
  clear hy hR2
  gi_wp2_with (fail)
  refine bodyPost_ret (results_none rfl _ _ _) rfl ?_
  exact ⟨⟨_, rfl⟩, hf.out⟩
end Go.Proofs.Ytlfdlifmcabfjaa
