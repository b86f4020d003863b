/-
  The document's sets of ports: an array of 65536 marks in memory.
-/
import Derived.Test.YtcjpjofoddpfhaaGreatExG
import Derived.KernelRfl
namespace Go.Proofs.YtcjpjofoddpfhaaGreat.Xp
open Go.RowKit
set_option linter.unusedVariables false
set_option linter.unusedSimpArgs false

def isNo : Value → Bool
  | .bool b => !b
  | _ => false
def allNo : List Value → Bool
  | [] => true
  | v :: l => match isNo v with
    | true => allNo l
    | false => false
def zeroOK : Option Value → Bool
  | some (.agg cs) => match allNo cs.toList with
    | true => Nat.beq cs.toList.length 65536
    | false => false
  | _ => false
theorem allNo_get : ∀ {l : List Value}, allNo l = true → ∀ i, i < l.length → l[i]? = some (.bool false)
  | [], _, i, h => by simp at h
  | v :: l, h, i, hi => by
    unfold allNo at h
    split at h
    · rename_i h1
      cases i with
      | zero =>
        cases v with
        | bool b => simp [isNo] at h1; simp [h1]
        | _ => simp [isNo] at h1
      | succ i => exact allNo_get h i (by simpa using hi)
    · cases h
/-- The block g of w holds the set p. -/
def PortsAt (w : World) (g : Nat) (p : Nat → Bool) : Prop :=
  ∃ cur : Array Value, w.heap[g]? = some (.cells cur 121 (0, 0)) ∧ cur.size = 65536 ∧ ∀ i, i < 65536 → cur[i]? = some (.bool (p i))
theorem PortsAt.cell {w : World} {g : Nat} {p : Nat → Bool} (h : PortsAt w g p) {i : Nat} (hi : i < 65536) : w.cell? ⟨g, i, none⟩ = some (.bool (p i)) ∧ w.frozen? ⟨g, i, none⟩ = false := by
  obtain ⟨cur, hg, hs, hc⟩ := h
  exact ⟨by rw [cell_of_row w g i cur _ (0, 0) hg]; exact hc i hi, by simp [World.frozen?, hg]⟩
theorem PortsAt.lt {w : World} {g : Nat} {p : Nat → Bool} (h : PortsAt w g p) : g < w.heap.size := by
  obtain ⟨cur, hg, _⟩ := h
  exact (Array.getElem?_eq_some_iff.1 hg).1
theorem PortsAt.on {w w' : World} {g : Nat} {p : Nat → Bool} (h : PortsAt w g p) (hb : w'.heap[g]? = w.heap[g]?) : PortsAt w' g p := by
  obtain ⟨cur, hg, r⟩ := h
  exact ⟨cur, hb.trans hg, r⟩
theorem PortsAt.congr {w : World} {g : Nat} {p q : Nat → Bool} (h : PortsAt w g p) (e : ∀ i, i < 65536 → p i = q i) : PortsAt w g q := by
  obtain ⟨cur, hg, hs, hc⟩ := h
  exact ⟨cur, hg, hs, fun i hi => by rw [← e i hi]; exact hc i hi⟩
theorem PortsAt.set {w : World} {g : Nat} {p : Nat → Bool} (h : PortsAt w g p) {i : Nat} (hi : i < 65536) (b : Bool) : PortsAt (w.setCell ⟨g, i, none⟩ (.bool b)) g (fun j => if j = i then b else p j) := by
  obtain ⟨cur, hg, hs, hc⟩ := h
  have hlt := (Array.getElem?_eq_some_iff.1 hg).1
  refine ⟨cur.setIfInBounds i (.bool b), ?_, by simpa using hs, fun j hj => ?_⟩
  · simp [World.setCell, Array.getElem?_modify, hg]
  · rw [Array.getElem?_setIfInBounds]
    by_cases e : i = j
    · subst e; simp [hs, hi]
    · rw [if_neg e, hc j hj]
      show _ = some (Value.bool (if j = i then b else p j))
      rw [if_neg (fun x : j = i => e x.symm)]
theorem PortsAt.new (w : World) {cs : Array Value} (hs : cs.size = 65536) (hc : ∀ i, i < 65536 → cs[i]? = some (.bool false)) : PortsAt (w.alloc (.cells cs 121)) w.heap.size (fun _ => false) :=
  ⟨cs, heap_alloc_new w _, hs, hc⟩
/-- All but the block g is as it was; memory may have been added. -/
def But (w w' : World) (g : Nat) : Prop := w.grownBy w' (some g)
theorem But.refl (w : World) (g : Nat) : But w w g := ⟨rfl, rfl, rfl, Nat.le_refl _, fun _ _ _ => rfl⟩
theorem But.trans {a b c : World} {g : Nat} (h : But a b g) (k : But b c g) : But a c g := World.grownBy.trans h k
theorem But.alloc {a w : World} {g : Nat} (h : But a w g) (o : Obj) : But a (w.alloc o) g := World.grownBy.trans h (World.grownBy_alloc w o (some g))
theorem But.drewN {a w : World} {g : Nat} (h : But a w g) (n : Nat) : But a (w.drewN n) g := ⟨h.os, h.tape, h.output, h.size, h.block⟩
theorem But.set {a w : World} {g : Nat} (h : But a w g) (i : Nat) (u : Value) : But a (w.setCell ⟨g, i, none⟩ u) g :=
  ⟨h.os, h.tape, h.output, by have := h.size; simpa [World.setCell] using this, fun k hk hne => by
    rw [Below.heap_setCell _ _ _ _ (by intro e; exact hne (by rw [e]))]
    exact h.block k hk hne⟩
theorem But.below {B : Nat} {a w w' : World} {g : Nat} (h : Below B a w) (hb : But w w' g) (hB : B ≤ w.heap.size) (hg : B ≤ g) : Below B a w' := h.grown hb hB fun k hk => by
  have := Option.some.inj hk; omega
set_option maxHeartbeats 1000000 in
theorem addS (a b : Nat) (ha : a < 65536) (hb : b < 65536) (g : Nat) (p : Nat → Bool) (w : World) (h : PortsAt w g p) :
    Calls Tryz.prog 93 #[.pointer (some ⟨g, 0, none⟩), .agg #[.int .u16 a, .int .u16 b]] w fun e w' => e = .returned (.tuple #[]) ∧ PortsAt w' g (fun i => p i || hasB (a, b) i) ∧ But w w' g := by
  have hg := h.lt
  have HP : Hid (PortsAt w g p) := h
  have ha' : (a : Int) < 65536 := by omega
  have hb' : (b : Int) < 65536 := by omega
  clear h
  go_enter Tryz.func93, Tryz.ntmps93
  go_wp2_with (fail)
  go_loopw [4] (fun iv wr => ∃ k : Nat, a ≤ k ∧ (k ≤ b + 1 ∨ k = a) ∧ iv = .int .i64 k ∧ wr.cell? ⟨w.heap.size, 0, none⟩ = some (.int .u16 a) ∧ wr.cell? ⟨w.heap.size, 1, none⟩ = some (.int .u16 b) ∧ Hid (PortsAt wr g (fun j => p j || (decide (a ≤ j) && decide (j < k)))) ∧ Hid (But w wr g)) (fun iv _ => b + 1 - (intOf iv).toNat)
  case atStart =>
    refine ⟨a, Nat.le_refl _, .inr rfl, rfl, by simp [go_sem], by simp [go_sem], ?_, (But.refl _ _).alloc _⟩
    refine (HP.out.on (Below.heap_alloc w _ g hg)).congr fun j hj => ?_
    have : (decide (a ≤ j) && decide (j < a)) = false := by simp
    rw [this, Bool.or_false]
  case round =>
    obtain ⟨k, hk1, hk2, rfl, x0, x1, hP, hB⟩ := hrel
    have hgr := hP.out.lt
    by_cases hlt : k ≤ b
    · have hlt' : (k : Int) ≤ (b : Int) := by omega
      have hk0 : (0 : Int) ≤ (k : Int) := by omega
      obtain ⟨y0, y1⟩ := hP.out.cell (i := k) (by omega)
      have hne : g ≠ w.heap.size := by omega
      have hne' : ¬ w.heap.size = g := by omega
      go_wp2
      go_roundw
      case rel =>
        refine ⟨k + 1, by omega, by omega, by go_num, by simp [go_sem, hne', x0], by simp [go_sem, hne', x1], ?_, hB.out.set k _⟩
        refine (hP.out.set (by omega) true).congr fun j hj => ?_
        by_cases e : j = k
        · subst e; simp [hk1]
        · rw [if_neg e]
          congr 2
          rw [decide_eq_decide]; omega
      case measure => simp [intOf]; omega
    · have hlt' : ¬ (k : Int) ≤ (b : Int) := by omega
      go_wp2
      go_end0
      refine ⟨rfl, hP.out.congr fun j hj => ?_, hB.out⟩
      congr 1
      unfold hasB
      show (decide (a ≤ j) && decide (j < k)) = (decide (a ≤ j) && decide (j ≤ b))
      by_cases e : a ≤ j
      · rw [decide_eq_true e, Bool.true_and, Bool.true_and, decide_eq_decide]; omega
      · rw [decide_eq_false e, Bool.false_and, Bool.false_and]
end Go.Proofs.YtcjpjofoddpfhaaGreat.Xp
