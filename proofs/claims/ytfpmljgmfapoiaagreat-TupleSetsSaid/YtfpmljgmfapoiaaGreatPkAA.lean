/-
  PkAA: SpPlain PxKin SpA SpB SpU ExPo ExSp ExZb ExPlain ExPlB ExA, one behind the other (tools/pack.py).
-/
import Derived.Below
import Derived.WalkKit
import Derived.WalkSpells
import Derived.WalkLawsBesides
import Derived.Deep.QuietTactic
import Derived.BigQuiet
import Derived.Test.YtfpmljgmfapoiaaGreatProg
import Derived.Sort.Grow
import Derived.Maps.AppendAt
import Derived.OwnWalk
import Derived.KernelRfl
import Derived.RowKit
import Derived.Laws.BitsAllLaws
/-
  Sets of ports as spans: a list of spans that rises and leaves a port between each two is the only such list of its set; the union, the gaps, counts. No program is named here.
-/
namespace Go.Proofs.YtfpmljgmfapoiaaGreat.Xp
set_option linter.unusedVariables false
set_option linter.unusedSimpArgs false

def hasB (s : Nat × Nat) (i : Nat) : Bool := decide (s.1 ≤ i) && decide (i ≤ s.2)
def memB (l : List (Nat × Nat)) (i : Nat) : Bool := l.any fun s => hasB s i
theorem hasB_iff (s : Nat × Nat) (i : Nat) : hasB s i = true ↔ s.1 ≤ i ∧ i ≤ s.2 := by simp [hasB]
theorem memB_nil (i : Nat) : memB [] i = false := rfl
theorem memB_cons (s : Nat × Nat) (l : List (Nat × Nat)) (i : Nat) : memB (s :: l) i = (hasB s i || memB l i) := rfl
/-- Rising, a port between each two, from k on. -/
def Canon : Nat → List (Nat × Nat) → Prop
  | _, [] => True
  | k, s :: l => k ≤ s.1 ∧ s.1 ≤ s.2 ∧ s.2 < 65536 ∧ Canon (s.2 + 2) l
theorem Canon.from {l : List (Nat × Nat)} {k i : Nat} (h : Canon k l) (hi : memB l i = true) : k ≤ i ∧ i < 65536 := by
  induction l generalizing k with
  | nil => cases hi
  | cons s l ih =>
    obtain ⟨h1, h2, h3, h4⟩ := h
    rw [memB_cons, Bool.or_eq_true, hasB_iff] at hi
    rcases hi with hi | hi
    · omega
    · have := ih h4 hi; omega
theorem Canon.each {l : List (Nat × Nat)} {k : Nat} (h : Canon k l) : ∀ s ∈ l, k ≤ s.1 ∧ s.1 ≤ s.2 ∧ s.2 < 65536 := by
  induction l generalizing k with
  | nil => intro s hs; cases hs
  | cons t l ih =>
    obtain ⟨h1, h2, h3, h4⟩ := h
    intro s hs
    rcases List.mem_cons.1 hs with rfl | hs
    · exact ⟨h1, h2, h3⟩
    · have := ih h4 s hs; omega
/-- How many ports below n. -/
def cnt (p : Nat → Bool) : Nat → Nat
  | 0 => 0
  | n + 1 => cnt p n + (if p n then 1 else 0)
end Go.Proofs.YtfpmljgmfapoiaaGreat.Xp
/-
  A region that draws its order, whose operations only read and whose callees only make memory of their own: one walk in the order of the text serves every order. No program is named here.
-/
namespace Go.Proofs.YtfpmljgmfapoiaaGreat
open Go.RowKit
set_option linter.unusedVariables false
set_option linter.unusedSimpArgs false

/-- A world that parts from W above W's blocks alone. -/
structure Kin (W : World) where
  val : World
  is : Below W.heap.size W val

theorem wp_region_kin {P : Program} {id : Nat} {Q : Exit → Act → World → Prop} {a : Act} {w : World} {l : List Oper} (W : World) (hW : Below W.heap.size W w) (hm : P.follows .mixedOrders = true) (hB : Region.lexB .any l.toArray = true)
    (h : wpQuiet P l.toArray (fun w' => ∃ x : Kin W, w' = x.val) (fun a' => ∀ w', (∃ x : Kin W, w' = x.val) → Q .normal a' w') l a) : (Code.region id l.toArray true).wp P Q a w :=
  wp_region_quiet (C := fun w' => ∃ x : Kin W, w' = x.val) hm hB ⟨⟨_, hW.drew⟩, rfl⟩ (by simpa using h)

theorem kin_call {P : Program} {f : FuncId} {args : Array Value} {W : World} {x : Kin W} {v : Value}
    (h : Calls P f args x.val fun e w' => e = .returned v ∧ Below x.val.heap.size x.val w') : Calls P f args x.val fun e w'' => e = .returned v ∧ ∃ y : Kin W, w'' = y.val :=
  h.mono fun _ w' ⟨he, hb⟩ => ⟨he, ⟨w', x.is.trans (hb.mono x.is.size)⟩, rfl⟩
theorem kin_cell {W : World} {p : Addr} (h : p.block < W.heap.size) (x : Kin W) : x.val.cell? p = W.cell? p := x.is.cell h
theorem bcell {W w1 : World} (hb : Below W.heap.size W w1) : (∀ b o, b < W.heap.size → w1.cell? ⟨b, o, none⟩ = W.cell? ⟨b, o, none⟩) ∧ (∀ b o, b < W.heap.size → w1.frozen? ⟨b, o, none⟩ = W.frozen? ⟨b, o, none⟩) :=
  ⟨fun b o h => hb.cell (p := ⟨b, o, none⟩) h, fun b o h => hb.frozen (p := ⟨b, o, none⟩) h⟩
theorem bel_drewN {B : Nat} {a w : World} (h : Below B a w) (n : Nat) : Below B a (w.drewN n) := ⟨h.os, h.tape, h.output, h.size, h.block⟩
theorem bel_of {B : Nat} {W V w1 : World} (h : Below B W V) (hb : Below V.heap.size V w1) (hB : B ≤ V.heap.size := by first | omega | (simp <;> omega)) : Below B W w1 := h.trans (hb.mono hB)
theorem cell_on1 {W w1 : World} (hb : Below W.heap.size W w1) {p : Addr} {v : Value} (h : W.cell? p = some v) : w1.cell? p = some v := by rw [hb.cell (World.block_lt_of_cell? W p h)]; exact h
theorem ret_int {k : IntKind} {a b : Int} (h : a = b) : Ending.returned (.int k a) = .returned (.int k b) := by rw [h]
theorem ret_same {a b : Bool} (h : a = b) : Ending.returned (.bool a) = .returned (.bool b) := by rw [h]
end Go.Proofs.YtfpmljgmfapoiaaGreat
/-
  What the small functions of package span hand back: one contract a function, for every world; each makes memory of its own alone.
-/
namespace Go.Proofs.YtfpmljgmfapoiaaGreat.Xp
open Go.RowKit
set_option linter.unusedVariables false
set_option linter.unusedSimpArgs false

def chkS (a b : Nat) : Int := if b < a then 30 else 0
theorem checkS (a b : Nat) (w : World) :
    Calls Tryz.prog 80 #[.agg #[.int .u16 a, .int .u16 b]] w fun e w' => e = .returned (.int .i64 (chkS a b)) ∧ Below w.heap.size w w' := by
  by_cases h : b < a
  · rw [show chkS a b = 30 from if_pos h]
    have h' : (b : Int) < (a : Int) := by omega
    clear h
    go_enter Tryz.func80, Tryz.ntmps80
    go_wp2
    go_ret
    exact ⟨rfl, by (repeat (first | assumption | exact Below.refl _ _ | refine Below.drew ?_ | refine bel_drewN ?_ _ | refine Below.setCell ?_ (by first | omega | (simp; done) | (simp; omega)) _ | refine Below.alloc ?_ (by first | omega | (simp; done) | (simp; omega)) _ | refine bel_of ?_ (by assumption)))⟩
  · rw [show chkS a b = 0 from if_neg h]
    have h' : ¬ (b : Int) < (a : Int) := by omega
    clear h
    go_enter Tryz.func80, Tryz.ntmps80
    go_wp2
    go_ret
    exact ⟨rfl, by (repeat (first | assumption | exact Below.refl _ _ | refine Below.drew ?_ | refine bel_drewN ?_ _ | refine Below.setCell ?_ (by first | omega | (simp; done) | (simp; omega)) _ | refine Below.alloc ?_ (by first | omega | (simp; done) | (simp; omega)) _ | refine bel_of ?_ (by assumption)))⟩
end Go.Proofs.YtfpmljgmfapoiaaGreat.Xp
/-
  Meet, Within, Compare of package span and of the document's answer.
-/
namespace Go.Proofs.YtfpmljgmfapoiaaGreat.Xp
open Go.RowKit
set_option linter.unusedVariables false
set_option linter.unusedSimpArgs false

def cmpI (x y : Nat × Nat) : Int := if x = y then 0 else if x.1 < y.1 ∨ (x.1 = y.1 ∧ x.2 < y.2) then -1 else 1

end Go.Proofs.YtfpmljgmfapoiaaGreat.Xp
/-
  Lists of spans in memory; 'append' of one owned row to another.
-/
namespace Go.Proofs.YtfpmljgmfapoiaaGreat.Xp
open Go.RowKit
set_option linter.unusedVariables false
set_option linter.unusedSimpArgs false

def flat : List (Nat × Nat) → List Value
  | [] => []
  | p :: l => .int .u16 (p.1 : Int) :: .int .u16 (p.2 : Int) :: flat l
theorem flat_at : ∀ (l : List (Nat × Nat)) (i : Nat) (h : i < l.length), (flat l)[i * 2]? = some (.int .u16 ((l[i]'h).1 : Int)) ∧ (flat l)[i * 2 + 1]? = some (.int .u16 ((l[i]'h).2 : Int))
  | p :: l, 0, _ => ⟨rfl, rfl⟩
  | p :: l, i + 1, h => by
    have := flat_at l i (by simpa using h)
    rw [show (i + 1) * 2 = i * 2 + 2 by omega]
    exact this

/-- The row v of w holds the list. -/
def Row (w : World) (base : Nat) (v : Value) (l : List (Nat × Nat)) : Prop := w.ownsRow base 48 2 v l.length (flat l)
theorem Row.base {w : World} {b b' : Nat} {v : Value} {l : List (Nat × Nat)} (h : Row w b v l) (hb : b' ≤ b) : Row w b' v l := by
  refine ⟨h.1, ?_⟩
  rcases h.2 with h2 | ⟨g, cap, cur, hv, hg, r⟩
  · exact .inl h2
  · exact .inr ⟨g, cap, cur, hv, by omega, r⟩
theorem Row.on {w w1 : World} {b : Nat} {v : Value} {l : List (Nat × Nat)} (h : Row w b v l) (hb : Below w.heap.size w w1) : Row w1 b v l := by
  refine ⟨h.1, ?_⟩
  rcases h.2 with h2 | ⟨g, cap, cur, hv, hg, hh, r⟩
  · exact .inl h2
  · exact .inr ⟨g, cap, cur, hv, hg, by rw [hb.block g (Array.getElem?_eq_some_iff.1 hh).1]; exact hh, r⟩
theorem Row.alloc {w : World} {b : Nat} {v : Value} {l : List (Nat × Nat)} (h : Row w b v l) (o : Obj) : Row (w.alloc o) b v l := World.ownsRow.alloc h o
theorem Row.nil (w : World) (b : Nat) : Row w b (.slice none 0 0) [] := World.ownsRow_nil w b _ _
theorem Row.one (w : World) (b a n : Nat) (hb : b ≤ w.heap.size) : Row (w.alloc (.cells #[.int .u16 a, .int .u16 n] 48)) b (.slice (some ⟨w.heap.size, 0, none⟩) 1 1) [(a, n)] :=
  World.ownsRow_lit w #[.int .u16 a, .int .u16 n] 1 hb (by decide) rfl
theorem Row.one2 (w : World) (b : Nat) {x y : Int} (a n : Nat) {B : Nat} (hB : B = w.heap.size) (hx : x = (a : Int)) (hy : y = (n : Int)) (hb : b ≤ w.heap.size) : Row (w.alloc (.cells #[.int .u16 x, .int .u16 y] 48)) b (.slice (some ⟨B, 0, none⟩) 1 1) [(a, n)] := by
  subst hx hy hB; exact Row.one w b a n hb
theorem Row.lt {w : World} {b : Nat} {v : Value} {l : List (Nat × Nat)} (h : Row w b v l) : ∀ k, v.ownBlock = some k → b ≤ k ∧ k < w.heap.size := World.ownsRow.lt h

theorem cell_on {W w1 : World} (hb : Below W.heap.size W w1) {p : Addr} {v : Value} (h : W.cell? p = some v) : w1.cell? p = some v := by rw [hb.cell (World.block_lt_of_cell? W p h)]; exact h
theorem cell_alloc {w : World} {p : Addr} {v : Value} {o : Obj} (h : w.cell? p = some v) : (w.alloc o).cell? p = some v := cell_on ((Below.refl _ _).alloc (Nat.le_refl _) o) h
/-- What a row looks like. -/
theorem Row.form {w : World} {b : Nat} {v : Value} {l : List (Nat × Nat)} (h : Row w b v l) :
    ∃ (ad : Option Addr) (cap : Nat), v = .slice ad l.length cap ∧ l.length ≤ cap ∧ (0 < l.length → ∃ g, ad = some ⟨g, 0, none⟩ ∧ b ≤ g ∧ g < w.heap.size ∧ ∀ k (hk : k < l.length), w.cell? ⟨g, k * 2, none⟩ = some (.int .u16 ((l[k]'hk).1 : Int)) ∧ w.cell? ⟨g, k * 2 + 1, none⟩ = some (.int .u16 ((l[k]'hk).2 : Int))) := by
  rcases h.2 with ⟨hv, hn⟩ | ⟨g, cap, cur, hv, hb, hg, hcap, r⟩
  · exact ⟨none, 0, by rw [hv, hn], by omega, fun h0 => by omega⟩
  · subst hv
    refine ⟨_, cap, rfl, hcap, fun _ => ⟨g, rfl, hb, (Array.getElem?_eq_some_iff.1 hg).1, fun k hk => ?_⟩⟩
    have h' : w.ownsRow b 48 2 (.slice (some ⟨g, 0, none⟩) l.length cap) l.length (flat l) := h
    have hf := flat_at l k hk
    exact ⟨by rw [h'.cellAt (k * 2) (by omega), hf.1], by rw [h'.cellAt (k * 2 + 1) (by omega), hf.2]⟩
theorem Row.frozen {w : World} {b g cap n : Nat} {l : List (Nat × Nat)} (h : Row w b (.slice (some ⟨g, 0, none⟩) n cap) l) (j : Nat) : w.frozen? ⟨g, j, none⟩ = false := by
  rcases h.2 with ⟨hv, _⟩ | ⟨g', cap', cur, hv, hb, hg, r⟩
  · cases hv
  · cases hv; simp [World.frozen?, hg]
end Go.Proofs.YtfpmljgmfapoiaaGreat.Xp
/-
  The document's sets of ports: an array of 65536 marks in memory.
-/
namespace Go.Proofs.YtfpmljgmfapoiaaGreat.Xp
open Go.RowKit
set_option linter.unusedVariables false
set_option linter.unusedSimpArgs false

def isNo : Value → Bool
  | .bool b => !b
  | _ => false
def allNo : List Value → Bool
  | [] => true
  | v :: l => match isNo v with
    | true => allNo l
    | false => false
def zeroOK : Option Value → Bool
  | some (.agg cs) => match allNo cs.toList with
    | true => Nat.beq cs.toList.length 65536
    | false => false
  | _ => false
theorem allNo_get : ∀ {l : List Value}, allNo l = true → ∀ i, i < l.length → l[i]? = some (.bool false)
  | [], _, i, h => by simp at h
  | v :: l, h, i, hi => by
    unfold allNo at h
    split at h
    · rename_i h1
      cases i with
      | zero =>
        cases v with
        | bool b => simp [isNo] at h1; simp [h1]
        | _ => simp [isNo] at h1
      | succ i => exact allNo_get h i (by simpa using hi)
    · cases h
/-- The block g of w holds the set p. -/
def PortsAt (w : World) (g : Nat) (p : Nat → Bool) : Prop :=
  ∃ cur : Array Value, w.heap[g]? = some (.cells cur 185 (0, 0)) ∧ cur.size = 65536 ∧ ∀ i, i < 65536 → cur[i]? = some (.bool (p i))
theorem PortsAt.cell {w : World} {g : Nat} {p : Nat → Bool} (h : PortsAt w g p) {i : Nat} (hi : i < 65536) : w.cell? ⟨g, i, none⟩ = some (.bool (p i)) ∧ w.frozen? ⟨g, i, none⟩ = false := by
  obtain ⟨cur, hg, hs, hc⟩ := h
  exact ⟨by rw [cell_of_row w g i cur _ (0, 0) hg]; exact hc i hi, by simp [World.frozen?, hg]⟩
theorem PortsAt.lt {w : World} {g : Nat} {p : Nat → Bool} (h : PortsAt w g p) : g < w.heap.size := by
  obtain ⟨cur, hg, _⟩ := h
  exact (Array.getElem?_eq_some_iff.1 hg).1
theorem PortsAt.on {w w' : World} {g : Nat} {p : Nat → Bool} (h : PortsAt w g p) (hb : w'.heap[g]? = w.heap[g]?) : PortsAt w' g p := by
  obtain ⟨cur, hg, r⟩ := h
  exact ⟨cur, hb.trans hg, r⟩
theorem PortsAt.congr {w : World} {g : Nat} {p q : Nat → Bool} (h : PortsAt w g p) (e : ∀ i, i < 65536 → p i = q i) : PortsAt w g q := by
  obtain ⟨cur, hg, hs, hc⟩ := h
  exact ⟨cur, hg, hs, fun i hi => by rw [← e i hi]; exact hc i hi⟩
theorem PortsAt.set {w : World} {g : Nat} {p : Nat → Bool} (h : PortsAt w g p) {i : Nat} (hi : i < 65536) (b : Bool) : PortsAt (w.setCell ⟨g, i, none⟩ (.bool b)) g (fun j => if j = i then b else p j) := by
  obtain ⟨cur, hg, hs, hc⟩ := h
  have hlt := (Array.getElem?_eq_some_iff.1 hg).1
  refine ⟨cur.setIfInBounds i (.bool b), ?_, by simpa using hs, fun j hj => ?_⟩
  · simp [World.setCell, Array.getElem?_modify, hg]
  · rw [Array.getElem?_setIfInBounds]
    by_cases e : i = j
    · subst e; simp [hs, hi]
    · rw [if_neg e, hc j hj]
      show _ = some (Value.bool (if j = i then b else p j))
      rw [if_neg (fun x : j = i => e x.symm)]
theorem PortsAt.new (w : World) {cs : Array Value} (hs : cs.size = 65536) (hc : ∀ i, i < 65536 → cs[i]? = some (.bool false)) : PortsAt (w.alloc (.cells cs 185)) w.heap.size (fun _ => false) :=
  ⟨cs, heap_alloc_new w _, hs, hc⟩
/-- All but the block g is as it was; memory may have been added. -/
def But (w w' : World) (g : Nat) : Prop := w.grownBy w' (some g)
theorem But.refl (w : World) (g : Nat) : But w w g := ⟨rfl, rfl, rfl, Nat.le_refl _, fun _ _ _ => rfl⟩
theorem But.trans {a b c : World} {g : Nat} (h : But a b g) (k : But b c g) : But a c g := World.grownBy.trans h k
theorem But.alloc {a w : World} {g : Nat} (h : But a w g) (o : Obj) : But a (w.alloc o) g := World.grownBy.trans h (World.grownBy_alloc w o (some g))
theorem But.drewN {a w : World} {g : Nat} (h : But a w g) (n : Nat) : But a (w.drewN n) g := ⟨h.os, h.tape, h.output, h.size, h.block⟩
theorem But.set {a w : World} {g : Nat} (h : But a w g) (i : Nat) (u : Value) : But a (w.setCell ⟨g, i, none⟩ u) g :=
  ⟨h.os, h.tape, h.output, by have := h.size; simpa [World.setCell] using this, fun k hk hne => by
    rw [Below.heap_setCell _ _ _ _ (by intro e; exact hne (by rw [e]))]
    exact h.block k hk hne⟩
theorem But.below {B : Nat} {a w w' : World} {g : Nat} (h : Below B a w) (hb : But w w' g) (hB : B ≤ w.heap.size) (hg : B ≤ g) : Below B a w' := h.grown hb hB fun k hk => by
  have := Option.some.inj hk; omega
set_option maxHeartbeats 1000000 in
theorem addS (a b : Nat) (ha : a < 65536) (hb : b < 65536) (g : Nat) (p : Nat → Bool) (w : World) (h : PortsAt w g p) :
    Calls Tryz.prog 92 #[.pointer (some ⟨g, 0, none⟩), .agg #[.int .u16 a, .int .u16 b]] w fun e w' => e = .returned (.tuple #[]) ∧ PortsAt w' g (fun i => p i || hasB (a, b) i) ∧ But w w' g := by
  have hg := h.lt
  have HP : Hid (PortsAt w g p) := h
  have ha' : (a : Int) < 65536 := by omega
  have hb' : (b : Int) < 65536 := by omega
  clear h
  go_enter Tryz.func92, Tryz.ntmps92
  go_wp2_with (fail)
  go_loopw [4] (fun iv wr => ∃ k : Nat, a ≤ k ∧ (k ≤ b + 1 ∨ k = a) ∧ iv = .int .i64 k ∧ wr.cell? ⟨w.heap.size, 0, none⟩ = some (.int .u16 a) ∧ wr.cell? ⟨w.heap.size, 1, none⟩ = some (.int .u16 b) ∧ Hid (PortsAt wr g (fun j => p j || (decide (a ≤ j) && decide (j < k)))) ∧ Hid (But w wr g)) (fun iv _ => b + 1 - (intOf iv).toNat)
  case atStart =>
    refine ⟨a, Nat.le_refl _, .inr rfl, rfl, by simp [go_sem], by simp [go_sem], ?_, (But.refl _ _).alloc _⟩
    refine (HP.out.on (Below.heap_alloc w _ g hg)).congr fun j hj => ?_
    have : (decide (a ≤ j) && decide (j < a)) = false := by simp
    rw [this, Bool.or_false]
  case round =>
    obtain ⟨k, hk1, hk2, rfl, x0, x1, hP, hB⟩ := hrel
    have hgr := hP.out.lt
    by_cases hlt : k ≤ b
    · have hlt' : (k : Int) ≤ (b : Int) := by omega
      have hk0 : (0 : Int) ≤ (k : Int) := by omega
      obtain ⟨y0, y1⟩ := hP.out.cell (i := k) (by omega)
      have hne : g ≠ w.heap.size := by omega
      have hne' : ¬ w.heap.size = g := by omega
      go_wp2
      go_roundw
      case rel =>
        refine ⟨k + 1, by omega, by omega, by go_num, by simp [go_sem, hne', x0], by simp [go_sem, hne', x1], ?_, hB.out.set k _⟩
        refine (hP.out.set (by omega) true).congr fun j hj => ?_
        by_cases e : j = k
        · subst e; simp [hk1]
        · rw [if_neg e]
          congr 2
          rw [decide_eq_decide]; omega
      case measure => simp [intOf]; omega
    · have hlt' : ¬ (k : Int) ≤ (b : Int) := by omega
      go_wp2
      go_end0
      refine ⟨rfl, hP.out.congr fun j hj => ?_, hB.out⟩
      congr 1
      unfold hasB
      show (decide (a ≤ j) && decide (j < k)) = (decide (a ≤ j) && decide (j ≤ b))
      by_cases e : a ≤ j
      · rw [decide_eq_true e, Bool.true_and, Bool.true_and, decide_eq_decide]; omega
      · rw [decide_eq_false e, Bool.false_and, Bool.false_and]
end Go.Proofs.YtfpmljgmfapoiaaGreat.Xp
/-
  The document's answer: a set of ports as spans.
-/
namespace Go.Proofs.YtfpmljgmfapoiaaGreat.Xp
open Go.RowKit
set_option linter.unusedVariables false
set_option linter.unusedSimpArgs false

end Go.Proofs.YtfpmljgmfapoiaaGreat.Xp
/-
  The zero value of the document's sets of ports: no port.
-/
namespace Go.Proofs.YtfpmljgmfapoiaaGreat.Xp
open Go.RowKit
set_option linter.unusedVariables false
set_option linter.unusedSimpArgs false

theorem zero_ok : zeroOK Tryz.t185.zero = true := by kernel_rfl
theorem zero_ports : ∃ cs : Array Value, Tryz.t185.zero = some (.agg cs) ∧ cs.size = 65536 ∧ ∀ i, i < 65536 → cs[i]? = some (.bool false) := by
  have h := zero_ok
  generalize Tryz.t185.zero = z at h
  unfold zeroOK at h
  split at h
  · rename_i cs
    split at h
    · rename_i h1
      have h2 : cs.toList.length = 65536 := Nat.eq_of_beq_eq_true h
      exact ⟨cs, rfl, by simpa using h2, fun i hi => by rw [← Array.getElem?_toList]; exact allNo_get h1 i (by omega)⟩
    · cases h
  · cases h
theorem run_zero_ports {cs : Array Value} (hz : Tryz.t185.zero = some (.agg cs)) (w : World) : (zeroValue 185).run Tryz.prog w = .ok (.agg cs) w := by
  simp [zeroValue, Tryz.typeInfo185, hz]
theorem ports_ne {cs : Array Value} (h : cs.size = 65536) : ¬ cs = #[] := fun e => by rw [e] at h; cases h
end Go.Proofs.YtfpmljgmfapoiaaGreat.Xp
/-
  The fewest stems of a set of ports: plain mathematics, no program is named here. 'ah': how many of the set lie below a place; 'tl': the document's way, by halves; 'Tiles': any way that goes up from place to place and takes at each place of the set the greatest stem that begins there: both tell one list.
-/
namespace Go.Proofs.YtfpmljgmfapoiaaGreat.Xp
open Go.RowKit
set_option linter.unusedVariables false

/-- How many of the set lie below i. -/
def ah (p : Nat → Bool) : Nat → Nat
  | 0 => 0
  | i + 1 => ah p i + if p i then 1 else 0
def full (p : Nat → Bool) (a n : Nat) : Prop := ∀ i, a ≤ i → i < a + n → p i = true
def bare (p : Nat → Bool) (a n : Nat) : Prop := ∀ i, a ≤ i → i < a + n → p i = false
theorem ah_step (p : Nat → Bool) (a n : Nat) : ah p (a + (n + 1)) = ah p (a + n) + if p (a + n) then 1 else 0 := rfl
theorem ah_bd (p : Nat → Bool) (a : Nat) : ∀ n, ah p a ≤ ah p (a + n) ∧ ah p (a + n) ≤ ah p a + n
  | 0 => ⟨Nat.le_refl _, Nat.le_refl _⟩
  | n + 1 => by
    have := ah_bd p a n
    rw [ah_step]
    split <;> omega
theorem ah_le (p : Nat → Bool) (n : Nat) : ah p n ≤ n := by
  have := (ah_bd p 0 n).2
  rw [Nat.zero_add] at this
  have e : ah p 0 = 0 := rfl
  omega
theorem ah_full (p : Nat → Bool) (a : Nat) : ∀ n, ah p (a + n) = ah p a + n ↔ full p a n
  | 0 => ⟨fun _ i h1 h2 => by omega, fun _ => rfl⟩
  | n + 1 => by
    have ih := ah_full p a n
    have bd := ah_bd p a n
    rw [ah_step]
    constructor
    · intro h
      have h1 : p (a + n) = true := by
        cases hp : p (a + n)
        · rw [hp] at h; simp at h; omega
        · rfl
      rw [h1] at h
      simp at h
      have h2 := ih.1 (by omega)
      intro i hi1 hi2
      by_cases e : i = a + n
      · subst e; exact h1
      · exact h2 i hi1 (by omega)
    · intro h
      rw [h (a + n) (by omega) (by omega), ih.2 fun i h1 h2 => h i h1 (by omega)]
      simp; omega
theorem ah_bare (p : Nat → Bool) (a : Nat) : ∀ n, ah p (a + n) = ah p a ↔ bare p a n
  | 0 => ⟨fun _ i h1 h2 => by omega, fun _ => rfl⟩
  | n + 1 => by
    have ih := ah_bare p a n
    have bd := ah_bd p a n
    rw [ah_step]
    constructor
    · intro h
      have h1 : p (a + n) = false := by
        cases hp : p (a + n)
        · rfl
        · rw [hp] at h; simp at h; omega
      rw [h1] at h
      simp at h
      have h2 := ih.1 (by omega)
      intro i hi1 hi2
      by_cases e : i = a + n
      · subst e; exact h1
      · exact h2 i hi1 (by omega)
    · intro h
      rw [h (a + n) (by omega) (by omega), ih.2 fun i h1 h2 => h i h1 (by omega)]
      simp
/-- The document's way: f is 16 less the stem's length. -/
def tl (p : Nat → Bool) : Nat → Nat → List (Nat × Nat)
  | 0, a => if ah p (a + 1) - ah p a = 1 then [(a, 16)] else []
  | f + 1, a => if ah p (a + 2 ^ (f + 1)) - ah p a = 2 ^ (f + 1) then [(a, 15 - f)] else if ah p (a + 2 ^ (f + 1)) - ah p a = 0 then [] else tl p f a ++ tl p f (a + 2 ^ f)
theorem tl_full {p : Nat → Bool} {f a : Nat} (h : full p a (2 ^ f)) : tl p f a = [(a, 16 - f)] := by
  have e := (ah_full p a (2 ^ f)).2 h
  cases f with
  | zero => unfold tl; rw [Nat.pow_zero] at e; rw [e, if_pos (by omega)]
  | succ f => unfold tl; rw [e, if_pos (Nat.add_sub_cancel_left ..), show 16 - (f + 1) = 15 - f by omega]
theorem tl_bare {p : Nat → Bool} {f a : Nat} (h : bare p a (2 ^ f)) : tl p f a = [] := by
  have e := (ah_bare p a (2 ^ f)).2 h
  have hp : 0 < 2 ^ f := Nat.pow_pos (by decide)
  cases f with
  | zero => unfold tl; rw [Nat.pow_zero] at e; rw [e, if_neg (by omega)]
  | succ f =>
    unfold tl
    rw [e]
    generalize 2 ^ (f + 1) = z at hp
    rw [if_neg (by omega), if_pos (by omega)]
theorem tl_halves {p : Nat → Bool} {f a : Nat} (h1 : ¬ full p a (2 ^ (f + 1))) (h2 : ¬ bare p a (2 ^ (f + 1))) : tl p (f + 1) a = tl p f a ++ tl p f (a + 2 ^ f) := by
  rw [← ah_full] at h1
  rw [← ah_bare] at h2
  have bd := ah_bd p a (2 ^ (f + 1))
  have h3 : ¬ ah p (a + 2 ^ (f + 1)) - ah p a = 2 ^ (f + 1) := by omega
  have h4 : ¬ ah p (a + 2 ^ (f + 1)) - ah p a = 0 := by omega
  show (if _ then _ else if _ then _ else _) = _
  rw [if_neg h3, if_neg h4]
/-- The greatest stem that begins at a. -/
structure IsMax (p : Nat → Bool) (a f : Nat) : Prop where
  le : f ≤ 16
  dvd : 2 ^ f ∣ a
  all : full p a (2 ^ f)
  max : ¬ (f < 16 ∧ 2 ^ (f + 1) ∣ a ∧ full p a (2 ^ (f + 1)))
def TilesF (p : Nat → Bool) (b : Nat) : Nat → Nat → List (Nat × Nat) → Prop
  | 0, a, l => a = b ∧ l = []
  | n + 1, a, l => (a < b ∧ p a = false ∧ TilesF p b n (a + 1) l) ∨ ∃ f l2, l = (a, 16 - f) :: l2 ∧ IsMax p a f ∧ a + 2 ^ f ≤ b ∧ TilesF p b n (a + 2 ^ f) l2
/-- From a up to b, by steps that pass over a place outside the set or take the greatest stem: the stems that are taken. -/
def Tiles (p : Nat → Bool) (a b : Nat) (l : List (Nat × Nat)) : Prop := ∃ n, TilesF p b n a l
theorem Tiles.done {p : Nat → Bool} (b : Nat) : Tiles p b b [] := ⟨0, rfl, rfl⟩
theorem Tiles.skip {p : Nat → Bool} {a b : Nat} {l : List (Nat × Nat)} (hlt : a < b) (hp : p a = false) (h : Tiles p (a + 1) b l) : Tiles p a b l := by
  obtain ⟨n, h⟩ := h
  exact ⟨n + 1, .inl ⟨hlt, hp, h⟩⟩
theorem Tiles.take {p : Nat → Bool} {a b f : Nat} {l : List (Nat × Nat)} (hm : IsMax p a f) (hle : a + 2 ^ f ≤ b) (h : Tiles p (a + 2 ^ f) b l) : Tiles p a b ((a, 16 - f) :: l) := by
  obtain ⟨n, h⟩ := h
  exact ⟨n + 1, .inr ⟨f, l, rfl, hm, hle, h⟩⟩
theorem Tiles.inv {p : Nat → Bool} {a b : Nat} {l : List (Nat × Nat)} (h : Tiles p a b l) : (a = b ∧ l = []) ∨ (a < b ∧ p a = false ∧ Tiles p (a + 1) b l) ∨ ∃ f l2, l = (a, 16 - f) :: l2 ∧ IsMax p a f ∧ a + 2 ^ f ≤ b ∧ Tiles p (a + 2 ^ f) b l2 := by
  obtain ⟨n, h⟩ := h
  cases n with
  | zero => exact .inl h
  | succ n =>
    rcases h with ⟨h1, h2, h3⟩ | ⟨f, l2, h1, h2, h3, h4⟩
    · exact .inr (.inl ⟨h1, h2, n, h3⟩)
    · exact .inr (.inr ⟨f, l2, h1, h2, h3, n, h4⟩)
theorem Tiles.end {p : Nat → Bool} {b : Nat} {l : List (Nat × Nat)} (h : Tiles p b b l) : l = [] := by
  rcases h.inv with ⟨_, h⟩ | ⟨h, _, _⟩ | ⟨f, l2, _, hm, hle, _⟩
  · exact h
  · omega
  · have : 0 < 2 ^ f := Nat.pow_pos (by decide)
    omega
theorem Tiles.skips {p : Nat → Bool} {b : Nat} {l : List (Nat × Nat)} : ∀ (n a : Nat), bare p a n → a + n ≤ b → (Tiles p a b l ↔ Tiles p (a + n) b l)
  | 0, a, _, _ => Iff.rfl
  | n + 1, a, h, hb => by
    have ha := h a (Nat.le_refl _) (by omega)
    have ih := Tiles.skips (b := b) (l := l) n (a + 1) (fun i h1 h2 => h i (by omega) (by omega)) (by omega)
    rw [show a + (n + 1) = a + 1 + n by omega, ← ih]
    constructor
    · intro ht
      rcases ht.inv with ⟨h3, _⟩ | ⟨_, _, h3⟩ | ⟨f, l2, _, hm, hle, h4⟩
      · omega
      · exact h3
      · have hp0 : 0 < 2 ^ f := Nat.pow_pos (by decide)
        have := hm.all a (Nat.le_refl _) (by omega)
        rw [ha] at this; cases this
    · exact fun ht => .skip (by omega) ha ht
theorem pow_dvd_le {f g : Nat} (h : f ≤ g) : 2 ^ f ∣ 2 ^ g := ⟨2 ^ (g - f), by rw [← Nat.pow_add]; congr 1; omega⟩
theorem pow_le {f g : Nat} (h : f ≤ g) : 2 ^ f ≤ 2 ^ g := Nat.pow_le_pow_right (by decide) h
theorem full_le {p : Nat → Bool} {a n m : Nat} (h : full p a n) (hm : m ≤ n) : full p a m := fun i h1 h2 => h i h1 (by omega)
/-- No greater stem of the set holds the block. -/
def free (p : Nat → Bool) (f a : Nat) : Prop := f = 16 ∨ ¬ full p (a / 2 ^ (f + 1) * 2 ^ (f + 1)) (2 ^ (f + 1))
theorem Tiles.block {p : Nat → Bool} {b : Nat} : ∀ (f a : Nat) (l : List (Nat × Nat)), f ≤ 16 → 2 ^ f ∣ a → a + 2 ^ f ≤ b → free p f a → Tiles p a b l → ∃ l', l = tl p f a ++ l' ∧ Tiles p (a + 2 ^ f) b l' := by
  intro f
  induction f with
  | zero =>
    intro a l hf hd hb hfr ht
    cases hp : p a
    · have hbr : bare p a (2 ^ 0) := fun i h1 h2 => by
        have e : i = a := by rw [Nat.pow_zero] at h2; omega
        rw [e]; exact hp
      exact ⟨l, by rw [tl_bare hbr]; rfl, (Tiles.skips (2 ^ 0) a hbr hb).1 ht⟩
    · have hfl : full p a (2 ^ 0) := fun i h1 h2 => by
        have e : i = a := by rw [Nat.pow_zero] at h2; omega
        rw [e]; exact hp
      rw [tl_full hfl]
      rcases ht.inv with ⟨h2, _⟩ | ⟨_, h2, _⟩ | ⟨g, l2, hl2, hm, hle, h3⟩
      · omega
      · rw [hp] at h2; cases h2
      · have hg : g = 0 := by
          cases g with
          | zero => rfl
          | succ g =>
            exfalso
            have d1 : 2 ^ (0 + 1) ∣ a := Nat.dvd_trans (pow_dvd_le (by omega)) hm.dvd
            rcases hfr with e | e
            · cases e
            · apply e
              rw [Nat.div_mul_cancel d1]
              exact full_le hm.all (pow_le (by omega))
        subst hg
        exact ⟨l2, by rw [hl2]; rfl, h3⟩
  | succ f ih =>
    intro a l hf hd hb hfr ht
    have hpos : 0 < 2 ^ (f + 1) := Nat.pow_pos (by decide)
    have hdbl : 2 ^ (f + 1) = 2 ^ f + 2 ^ f := by rw [Nat.pow_succ]; omega
    by_cases h1 : full p a (2 ^ (f + 1))
    · rw [tl_full h1]
      rcases ht.inv with ⟨h2, _⟩ | ⟨_, h2, _⟩ | ⟨g, l2, hl2, hm, hle, h3⟩
      · omega
      · rw [h1 a (Nat.le_refl _) (by omega)] at h2; cases h2
      · have hg : g = f + 1 := by
          rcases Nat.lt_trichotomy g (f + 1) with h | h | h
          · exact absurd ⟨by omega, Nat.dvd_trans (pow_dvd_le (by omega)) hd, full_le h1 (pow_le (by omega))⟩ hm.max
          · exact h
          · exfalso
            have d1 : 2 ^ (f + 1 + 1) ∣ a := Nat.dvd_trans (pow_dvd_le (by omega)) hm.dvd
            rcases hfr with e | e
            · have := hm.le; omega
            · apply e
              rw [Nat.div_mul_cancel d1]
              exact full_le hm.all (pow_le (by omega))
        subst hg
        exact ⟨l2, by rw [hl2]; rfl, h3⟩
    · by_cases h2 : bare p a (2 ^ (f + 1))
      · exact ⟨l, by rw [tl_bare h2]; rfl, (Tiles.skips _ a h2 hb).1 ht⟩
      · rw [tl_halves h1 h2]
        have hdf : 2 ^ f ∣ a := Nat.dvd_trans (pow_dvd_le (by omega)) hd
        obtain ⟨l1, e1, t1⟩ := ih a l (by omega) hdf (by omega) (.inr (by rw [Nat.div_mul_cancel hd]; exact h1)) ht
        have e3 : (a + 2 ^ f) / 2 ^ (f + 1) * 2 ^ (f + 1) = a := by
          obtain ⟨q, rfl⟩ := hd
          have hp2 : 0 < 2 ^ f := Nat.pow_pos (by decide)
          rw [Nat.mul_add_div hpos, Nat.div_eq_of_lt (by omega), Nat.add_zero, Nat.mul_comm]
        obtain ⟨l2, e2, t2⟩ := ih (a + 2 ^ f) l1 (by omega) (Nat.dvd_add hdf (Nat.dvd_refl _)) (by omega) (.inr (by rw [e3]; exact h1)) t1
        refine ⟨l2, by rw [e1, e2, List.append_assoc], ?_⟩
        rw [show a + 2 ^ (f + 1) = a + 2 ^ f + 2 ^ f by omega]
        exact t2
/-- Whoever goes up and takes the greatest one each time tells the document's list. -/
theorem Tiles.is {p : Nat → Bool} {l : List (Nat × Nat)} (h : Tiles p 0 65536 l) : l = tl p 16 0 := by
  obtain ⟨l', e, t⟩ := Tiles.block 16 0 l (Nat.le_refl _) (Nat.dvd_zero _) (by decide) (.inl rfl) h
  have := Tiles.end (b := 65536) (l := l') t
  rw [e, this, List.append_nil]
end Go.Proofs.YtfpmljgmfapoiaaGreat.Xp
/-
  What the fewest stems of a set hold, how many ports they have, how many they are for a span. No program is named here.
-/
namespace Go.Proofs.YtfpmljgmfapoiaaGreat.Xp
open Go.RowKit
set_option linter.unusedVariables false

/-- Does the stem (begin, length) hold the port? -/
def hos (q : Nat) (t : Nat × Nat) : Bool := decide (t.1 ≤ q ∧ q < t.1 + 2 ^ (16 - t.2))
/-- A stem that may be, within [a, a + n). -/
structure Sits (p : Nat → Bool) (a n : Nat) (t : Nat × Nat) : Prop where
  ge : a ≤ t.1
  le : t.1 + 2 ^ (16 - t.2) ≤ a + n
  len : t.2 ≤ 16
  dvd : 2 ^ (16 - t.2) ∣ t.1
  all : full p t.1 (2 ^ (16 - t.2))
theorem tl_sits (p : Nat → Bool) : ∀ (f a : Nat), f ≤ 16 → 2 ^ f ∣ a → ∀ t ∈ tl p f a, Sits p a (2 ^ f) t := by
  intro f
  induction f with
  | zero =>
    intro a hf hd t ht
    by_cases h : full p a (2 ^ 0)
    · rw [tl_full h, List.mem_singleton] at ht
      subst ht
      exact ⟨Nat.le_refl _, Nat.le_refl _, Nat.le_refl _, hd, h⟩
    · have hb : bare p a (2 ^ 0) := fun i h1 h2 => by
        have e : i = a := by rw [Nat.pow_zero] at h2; omega
        cases hp : p i
        · rfl
        · exact absurd (fun j j1 j2 => by
            have e2 : j = i := by rw [Nat.pow_zero] at j2; omega
            rw [e2]; exact hp) h
      rw [tl_bare hb] at ht; cases ht
  | succ f ih =>
    intro a hf hd t ht
    have hdbl : 2 ^ (f + 1) = 2 ^ f + 2 ^ f := by rw [Nat.pow_succ]; omega
    by_cases h1 : full p a (2 ^ (f + 1))
    · rw [tl_full h1, List.mem_singleton] at ht
      subst ht
      have e : 16 - (16 - (f + 1)) = f + 1 := by omega
      refine ⟨Nat.le_refl _, ?_, by show 16 - (f + 1) ≤ 16; omega, ?_, ?_⟩
      · show a + 2 ^ (16 - (16 - (f + 1))) ≤ _; rw [e]; exact Nat.le_refl _
      · show 2 ^ (16 - (16 - (f + 1))) ∣ a; rw [e]; exact hd
      · show full p a (2 ^ (16 - (16 - (f + 1)))); rw [e]; exact h1
    · by_cases h2 : bare p a (2 ^ (f + 1))
      · rw [tl_bare h2] at ht; cases ht
      · rw [tl_halves h1 h2, List.mem_append] at ht
        have hdf : 2 ^ f ∣ a := Nat.dvd_trans (pow_dvd_le (by omega)) hd
        rcases ht with ht | ht
        · have := ih a (by omega) hdf t ht
          exact ⟨this.ge, by have := this.le; omega, this.len, this.dvd, this.all⟩
        · have := ih (a + 2 ^ f) (by omega) (Nat.dvd_add hdf (Nat.dvd_refl _)) t ht
          exact ⟨by have := this.ge; omega, by have := this.le; omega, this.len, this.dvd, this.all⟩
/-- Each port of the set is held by one of them alone, no other one by any. -/
theorem tl_count (p : Nat → Bool) (q : Nat) : ∀ (f a : Nat), f ≤ 16 → 2 ^ f ∣ a → (tl p f a).countP (hos q) = if (decide (a ≤ q ∧ q < a + 2 ^ f) && p q) = true then 1 else 0 := by
  intro f
  induction f with
  | zero =>
    intro a hf hd
    by_cases h : p a = true
    · have hfl : full p a (2 ^ 0) := fun i h1 h2 => by
        have e : i = a := by rw [Nat.pow_zero] at h2; omega
        rw [e]; exact h
      rw [tl_full hfl, List.countP_cons, List.countP_nil]
      by_cases e : q = a
      · subst e; simp [hos, h]
      · have h1 : hos q (a, 16 - 0) = false := decide_eq_false (by show ¬ (a ≤ q ∧ q < a + 2 ^ (16 - 16)); simp; omega)
        rw [h1, if_neg (by simp), if_neg (by simp; omega)]
    · have hb : bare p a (2 ^ 0) := fun i h1 h2 => by
        have e : i = a := by rw [Nat.pow_zero] at h2; omega
        rw [e]; simpa using h
      rw [tl_bare hb, List.countP_nil, if_neg]
      rw [Bool.and_eq_true, decide_eq_true_eq]
      rintro ⟨⟨h1, h2⟩, h3⟩
      have e : q = a := by rw [Nat.pow_zero] at h2; omega
      rw [e] at h3; exact h h3
  | succ f ih =>
    intro a hf hd
    have hdbl : 2 ^ (f + 1) = 2 ^ f + 2 ^ f := by rw [Nat.pow_succ]; omega
    by_cases h1 : full p a (2 ^ (f + 1))
    · rw [tl_full h1, List.countP_cons, List.countP_nil]
      have e : 16 - (16 - (f + 1)) = f + 1 := by omega
      by_cases hq : a ≤ q ∧ q < a + 2 ^ (f + 1)
      · have h2 : hos q (a, 16 - (f + 1)) = true := decide_eq_true (by show a ≤ q ∧ q < a + 2 ^ (16 - (16 - (f + 1))); rw [e]; exact hq)
        rw [h2, h1 q hq.1 hq.2, decide_eq_true hq]; rfl
      · have h2 : hos q (a, 16 - (f + 1)) = false := decide_eq_false (by show ¬ (a ≤ q ∧ q < a + 2 ^ (16 - (16 - (f + 1)))); rw [e]; exact hq)
        rw [h2, decide_eq_false hq]; rfl
    · by_cases h2 : bare p a (2 ^ (f + 1))
      · rw [tl_bare h2, List.countP_nil, if_neg]
        rw [Bool.and_eq_true, decide_eq_true_eq]
        rintro ⟨⟨h3, h4⟩, h5⟩
        rw [h2 q h3 h4] at h5; cases h5
      · have hdf : 2 ^ f ∣ a := Nat.dvd_trans (pow_dvd_le (by omega)) hd
        rw [tl_halves h1 h2, List.countP_append, ih a (by omega) hdf, ih (a + 2 ^ f) (by omega) (Nat.dvd_add hdf (Nat.dvd_refl _))]
        by_cases hp : p q = true
        · rw [hp]
          simp only [Bool.and_true, decide_eq_true_eq]
          by_cases x1 : a ≤ q ∧ q < a + 2 ^ f
          · rw [if_pos x1, if_neg (by omega), if_pos (by omega)]
          · rw [if_neg x1]
            by_cases x2 : a + 2 ^ f ≤ q ∧ q < a + 2 ^ f + 2 ^ f
            · rw [if_pos x2, if_pos (by omega)]
            · rw [if_neg x2, if_neg (by omega)]
        · rw [show p q = false by simpa using hp]
          simp
/-- A span's ports. -/
def inS (lo hi i : Nat) : Bool := decide (lo ≤ i ∧ i ≤ hi)
theorem tl_top (lo hi : Nat) : ∀ (f a : Nat), f ≤ 16 → a + 2 ^ f ≤ hi + 1 → (tl (inS lo hi) f a).length ≤ max 1 f := by
  intro f
  induction f with
  | zero =>
    intro a _ _
    unfold tl
    split <;> simp
  | succ f ih =>
    intro a hf h
    have hdbl : 2 ^ (f + 1) = 2 ^ f + 2 ^ f := by rw [Nat.pow_succ]; omega
    have hpos : 0 < 2 ^ f := Nat.pow_pos (by decide)
    by_cases h1 : full (inS lo hi) a (2 ^ (f + 1))
    · rw [tl_full h1]; simp <;> omega
    · by_cases h2 : bare (inS lo hi) a (2 ^ (f + 1))
      · rw [tl_bare h2]; simp
      · rw [tl_halves h1 h2, List.length_append]
        by_cases x : lo ≤ a + 2 ^ f
        · have hfl : full (inS lo hi) (a + 2 ^ f) (2 ^ f) := fun i i1 i2 => decide_eq_true (by omega)
          have := ih a (by omega) (by omega)
          rw [tl_full hfl]
          cases f with
          | zero =>
            have hb : bare (inS lo hi) a (2 ^ 0) := fun i i1 i2 => decide_eq_false (by
              intro hc
              apply h1
              intro j j1 j2
              have e1 : i = a := by rw [Nat.pow_zero] at i2; omega
              exact decide_eq_true (by omega))
            rw [tl_bare hb]; simp
          | succ f => simp at this ⊢; omega
        · have hb : bare (inS lo hi) a (2 ^ f) := fun i i1 i2 => decide_eq_false (by omega)
          have := ih (a + 2 ^ f) (by omega) (by omega)
          rw [tl_bare hb]
          simp at this ⊢; omega
theorem tl_bot (lo hi : Nat) : ∀ (f a : Nat), f ≤ 16 → lo ≤ a → (tl (inS lo hi) f a).length ≤ max 1 f := by
  intro f
  induction f with
  | zero =>
    intro a _ _
    unfold tl
    split <;> simp
  | succ f ih =>
    intro a hf h
    have hdbl : 2 ^ (f + 1) = 2 ^ f + 2 ^ f := by rw [Nat.pow_succ]; omega
    have hpos : 0 < 2 ^ f := Nat.pow_pos (by decide)
    by_cases h1 : full (inS lo hi) a (2 ^ (f + 1))
    · rw [tl_full h1]; simp <;> omega
    · by_cases h2 : bare (inS lo hi) a (2 ^ (f + 1))
      · rw [tl_bare h2]; simp
      · rw [tl_halves h1 h2, List.length_append]
        by_cases x : a + 2 ^ f ≤ hi + 1
        · have hfl : full (inS lo hi) a (2 ^ f) := fun i i1 i2 => decide_eq_true (by omega)
          have := ih (a + 2 ^ f) (by omega) (by omega)
          rw [tl_full hfl]
          cases f with
          | zero =>
            have hb : bare (inS lo hi) (a + 2 ^ 0) (2 ^ 0) := fun i i1 i2 => decide_eq_false (by
              intro hc
              apply h1
              intro j j1 j2
              have e1 : i = a + 1 := by rw [Nat.pow_zero] at i1 i2; omega
              exact decide_eq_true (by omega))
            rw [tl_bare hb]; simp
          | succ f => simp at this ⊢; omega
        · have hb : bare (inS lo hi) (a + 2 ^ f) (2 ^ f) := fun i i1 i2 => decide_eq_false (by omega)
          have := ih a (by omega) (by omega)
          rw [tl_bare hb]
          simp at this ⊢; omega
/-- A span of ports is 30 stems at the most. -/
theorem tl_few (lo hi : Nat) : ∀ (f a : Nat), f ≤ 16 → (tl (inS lo hi) f a).length ≤ max 1 (2 * f - 2) := by
  intro f
  induction f with
  | zero =>
    intro a _
    unfold tl
    split <;> simp
  | succ f ih =>
    intro a hf
    have hdbl : 2 ^ (f + 1) = 2 ^ f + 2 ^ f := by rw [Nat.pow_succ]; omega
    have hpos : 0 < 2 ^ f := Nat.pow_pos (by decide)
    by_cases h1 : full (inS lo hi) a (2 ^ (f + 1))
    · rw [tl_full h1]; simp <;> omega
    · by_cases h2 : bare (inS lo hi) a (2 ^ (f + 1))
      · rw [tl_bare h2]; simp
      · rw [tl_halves h1 h2, List.length_append]
        by_cases x : a + 2 ^ f ≤ lo
        · have hb : bare (inS lo hi) a (2 ^ f) := fun i i1 i2 => decide_eq_false (by omega)
          have := ih (a + 2 ^ f) (by omega)
          rw [tl_bare hb]
          simp at this ⊢; omega
        · by_cases y : hi < a + 2 ^ f
          · have hb : bare (inS lo hi) (a + 2 ^ f) (2 ^ f) := fun i i1 i2 => decide_eq_false (by omega)
            have := ih a (by omega)
            rw [tl_bare hb]
            simp at this ⊢; omega
          · have t1 := tl_top lo hi f a (by omega) (by omega)
            have t2 := tl_bot lo hi f (a + 2 ^ f) (by omega) (by omega)
            cases f with
            | zero =>
              exfalso
              apply h1
              intro j j1 j2
              simp at j2 x y
              exact decide_eq_true (by omega)
            | succ f => simp at t1 t2 ⊢; omega
end Go.Proofs.YtfpmljgmfapoiaaGreat.Xp
/-
  Stems: what the small functions of the document's answer hand back (May, Check, Has, Span); one contract a function, for every world.
-/
namespace Go.Proofs.YtfpmljgmfapoiaaGreat.Xp
open Go.RowKit
set_option linter.unusedVariables false
set_option linter.unusedSimpArgs false

/-- The bit i of a number of 16 bits, counted from its first. -/
def bt (b i : Nat) : Nat := b / 2 ^ (15 - i) % 2
end Go.Proofs.YtfpmljgmfapoiaaGreat.Xp
