/-
  PkAD: ShA TbRa TbU TbPlain TbS PxB, one behind the other (tools/pack.py).
-/
import Derived.Test.YtfpmljgmfapoiaaGreatPkAC
import Derived.Maps.AppendAt
import Derived.OwnWalk
import Derived.Deep.AppendLies
import Derived.Laws.CopyOwn
import Derived.Deep.DeepCutAuto
import Derived.Deep.RegionHeld3
import Derived.Deep.DrawnRows
/-
  Short forms of steps that come again and again: the simp set of frames; one operation of a region that draws; an operation that reads nothing.
-/
namespace Go.Proofs.YtfpmljgmfapoiaaGreat
open Go.RowKit
set_option linter.unusedVariables false
set_option linter.unusedSimpArgs false

theorem nrm : (∀ (α : Type) (xs : List α) (i : Nat) (h : i < xs.toArray.size), xs.toArray[i]'h = xs[i]'(by simpa using h)) ∧ (∀ (α : Type) (a : α) (xs : List α) (i : Nat) (h : i + 1 < (a :: xs).length), (a :: xs)[i + 1]'h = xs[i]'(Nat.lt_of_succ_lt_succ h)) ∧ (∀ (α : Type) (a : α) (xs : List α) (h : 0 < (a :: xs).length), (a :: xs)[0]'h = a) ∧ (∀ (α : Type) (l : List α) (i : Nat) (a : α), l.toArray.setIfInBounds i a = (l.set i a).toArray) ∧ (∀ (α : Type) (x y : α) (xs : List α), (x :: xs).set 0 y = y :: xs) ∧ (∀ (α : Type) (x y : α) (xs : List α) (i : Nat), (x :: xs).set (i + 1) y = x :: xs.set i y) ∧ (∀ (a : Act) (d : Tmp) (v : Value), Act.put a (some d) v = { a with tmps := a.tmps.setIfInBounds d v }) ∧ (∀ (a : Act) (v : Value), Act.put a none v = a) :=
  ⟨fun _ _ _ _ => by simp, fun _ _ _ _ _ => by simp, fun _ _ _ _ => by simp, fun _ _ _ _ => by simp, fun _ _ _ _ => rfl, fun _ _ _ _ _ => rfl, fun _ _ _ => rfl, fun _ _ => rfl⟩
theorem wpOne {P : Program} {ops : Array Oper} {Q : Exit → Act → World → Prop} {md : Region.Mode} {S : World → Prop} (i : Nat) {o : Oper} {fuel : Nat} {listed : Array Bool} {a : Act} {w : World} (hr : Region.ready md ops listed = [i]) (hi : ops[i]? = some o) (hw : Region.wanted o (yielded ops a.tmps) = true)
    (h : ∀ K' : Act → World → Prop, (∀ a' w', S w' ∧ wpAnyH P md ops Q S fuel (listed.setIfInBounds i true) a' w' → K' a' w') → o.wp P a w K' Q) : wpAnyH P md ops Q S (fuel + 1) listed a w :=
  wpAnyH_all hr (by simp) fun j hj => by
    rw [List.mem_singleton] at hj
    subst hj
    exact wpOp_of_wp hi hw h
theorem wpTk {P : Program} {ops : Array Oper} {Q : Exit → Act → World → Prop} {md : Region.Mode} {S : World → Prop} {i : Nat} {oi : Oper} {v : Value} {fuel : Nat} {listed : Array Bool} {a : Act} {w : World} (hS : S w)
    (h : wpAnyH P md ops Q S fuel (listed.setIfInBounds i true) (a.put oi.dst v) w) (hi : ops[i]? = some oi := by rfl) (hs : Region.noSelect ops = true := by kernel_rfl) (hf : Region.free md ops listed i = true := by kernel_rfl) (hr : (Region.ready md ops listed).contains i = true := by kernel_rfl)
    (hQ : ∀ c a w, Q (.panic c) (a.put oi.dst v) w → Q (.panic c) a w := by exact fun _ _ _ h => h) (hw : Region.wanted oi (yielded ops a.tmps) = true := by rfl) (hv : ∀ w, S w → (execOp a.eval oi).run P w = .ok (.value v) w := by intro _ _; simp [execOp, go_sem]) : wpAnyH P md ops Q S (fuel + 1) listed a w :=
  wpAnyH_take hi hs hf hr hQ (.inl ⟨hw, hv⟩) hS h
theorem wpLd {P : Program} {ops : Array Oper} {Q : Exit → Act → World → Prop} {md : Region.Mode} {S : World → Prop} {i : Nat} {oi : Oper} {v : Value} {fuel : Nat} {listed : Array Bool} {a : Act} {w : World} (hi : ops[i]? = some oi) (hy : YieldsIf P ops S oi v a) (hS : S w)
    (h : wpAnyH P md ops Q S fuel (listed.setIfInBounds i true) (a.put oi.dst v) w) (hs : Region.noSelect ops = true := by kernel_rfl) (hf : Region.free md ops listed i = true := by kernel_rfl) (hr : (Region.ready md ops listed).contains i = true := by kernel_rfl)
    (hQ : ∀ c a w, Q (.panic c) (a.put oi.dst v) w → Q (.panic c) a w := by exact fun _ _ _ h => h) : wpAnyH P md ops Q S (fuel + 1) listed a w :=
  wpAnyH_take hi hs hf hr hQ hy hS h
theorem wpSt {P : Program} {op : Oper} {a : Act} {w : World} {K : Act → World → Prop} {Q : Exit → Act → World → Prop} (ty : TypeId) (x y : Operand) (ho : op.op = .store ty x y)
    (B o : Nat) (cs new : Array Value) (hx : a.eval x = .pointer (some ⟨B, o, none⟩)) (hy : a.eval y = .agg cs) (t : TypeId) (old : Array Value) (h : w.heap[B]? = some (.cells old t (0, 0)))
    (hk : ∀ w', w'.heap[B]? = some (.cells new t (0, 0)) → Only B w w' → K (a.put op.dst undef) w') (hl : o + cs.size ≤ old.size := by exact Nat.le_of_ble_eq_true rfl) (hn : old.toList.take o ++ cs.toList ++ old.toList.drop (o + cs.size) = new.toList := by rfl)
    (hi : (P.info? ty).map (·.size) = some cs.size := by kernel_rfl) (h1 : cs.toList.all (·.oneCell') = true := by rfl) : op.wp P a w K Q :=
  wp_store_blk ty x y ho B o cs new hx hy t old h hl hn hi h1 hk
theorem mmL : (∀ (a b : Nat) (l : List Nat), (a ∈ b :: l) = (a = b ∨ a ∈ l)) ∧ (∀ a : Nat, (a ∈ ([] : List Nat)) = False) ∧ (∀ p : Prop, (p ∨ False) = p) :=
  ⟨fun _ _ _ => by simp, fun _ => by simp, fun _ => by simp⟩
theorem wpO {P : Program} {ops : Array Oper} {Q : Exit → Act → World → Prop} {md : Region.Mode} {S : World → Prop} (i : Nat) {o : Oper} {fuel : Nat} {listed : Array Bool} {a : Act} {w : World}
    (h : ∀ K' : Act → World → Prop, (∀ a' w', S w' ∧ wpAnyH P md ops Q S fuel (listed.setIfInBounds i true) a' w' → K' a' w') → o.wp P a w K' Q)
    (hr : Region.ready md ops listed = [i] := by kernel_rfl) (hi : ops[i]? = some o := by rfl) (hw : Region.wanted o (yielded ops a.tmps) = true := by rfl) : wpAnyH P md ops Q S (fuel + 1) listed a w := wpOne i hr hi hw h
end Go.Proofs.YtfpmljgmfapoiaaGreat
/-
  Small functions of span and rule; a rule in its block.
-/
namespace Go.Proofs.YtfpmljgmfapoiaaGreat
open Go.RowKit
set_option linter.unusedVariables false
set_option linter.unusedSimpArgs false

theorem blk12 {w : World} {B : Nat} {v0 v1 v2 v3 v4 v5 v6 v7 v8 v9 v10 v11 : Value} {t : TypeId} {fr : Nat × Nat} (h : w.heap[B]? = some (.cells #[v0, v1, v2, v3, v4, v5, v6, v7, v8, v9, v10, v11] t fr)) :
    w.cell? ⟨B, 0, none⟩ = some v0 ∧ w.cell? ⟨B, 1, none⟩ = some v1 ∧ w.cell? ⟨B, 2, none⟩ = some v2 ∧ w.cell? ⟨B, 3, none⟩ = some v3 ∧ w.cell? ⟨B, 4, none⟩ = some v4 ∧ w.cell? ⟨B, 5, none⟩ = some v5 ∧ w.cell? ⟨B, 6, none⟩ = some v6 ∧ w.cell? ⟨B, 7, none⟩ = some v7 ∧ w.cell? ⟨B, 8, none⟩ = some v8 ∧ w.cell? ⟨B, 9, none⟩ = some v9 ∧ w.cell? ⟨B, 10, none⟩ = some v10 ∧ w.cell? ⟨B, 11, none⟩ = some v11 :=
  ⟨blk_cell h rfl, blk_cell h rfl, blk_cell h rfl, blk_cell h rfl, blk_cell h rfl, blk_cell h rfl, blk_cell h rfl, blk_cell h rfl, blk_cell h rfl, blk_cell h rfl, blk_cell h rfl, blk_cell h rfl⟩
theorem blk2 {w : World} {B : Nat} {v0 v1 : Value} {t : TypeId} {fr : Nat × Nat} (h : w.heap[B]? = some (.cells #[v0, v1] t fr)) : w.cell? ⟨B, 0, none⟩ = some v0 ∧ w.cell? ⟨B, 1, none⟩ = some v1 := ⟨blk_cell h rfl, blk_cell h rfl⟩
theorem checkIdC (i : Int) (w : World) :
    Calls Tryz.prog 83 #[.int .i64 i] w fun e w' => e = .returned (.int .i64 (errI i)) ∧ Below w.heap.size w w' := by
  by_cases h1 : i < 1
  · rw [show errI i = 80 from if_neg (by omega)]
    go_enter Tryz.func83, Tryz.ntmps83
    go_wp2
    go_ret
    exact ⟨rfl, by (repeat (first | assumption | exact Below.refl _ _ | refine Below.drew ?_ | refine bel_drewN ?_ _ | refine Below.setCell ?_ (by first | omega | (simp; done) | (simp; omega)) _ | refine Below.alloc ?_ (by first | omega | (simp; done) | (simp; omega)) _ | refine bel_of ?_ (by assumption)))⟩
  · by_cases h2 : 999999 < i
    · rw [show errI i = 80 from if_neg (by omega)]
      go_enter Tryz.func83, Tryz.ntmps83
      go_wp2
      go_ret
      exact ⟨rfl, by (repeat (first | assumption | exact Below.refl _ _ | refine Below.drew ?_ | refine bel_drewN ?_ _ | refine Below.setCell ?_ (by first | omega | (simp; done) | (simp; omega)) _ | refine Below.alloc ?_ (by first | omega | (simp; done) | (simp; omega)) _ | refine bel_of ?_ (by assumption)))⟩
    · rw [show errI i = 0 from if_pos (by omega)]
      go_enter Tryz.func83, Tryz.ntmps83
      go_wp2
      go_ret
      exact ⟨rfl, by (repeat (first | assumption | exact Below.refl _ _ | refine Below.drew ?_ | refine bel_drewN ?_ _ | refine Below.setCell ?_ (by first | omega | (simp; done) | (simp; omega)) _ | refine Below.alloc ?_ (by first | omega | (simp; done) | (simp; omega)) _ | refine bel_of ?_ (by assumption)))⟩
theorem checkActC (a : Int) (w : World) :
    Calls Tryz.prog 86 #[.int .i64 a] w fun e w' => e = .returned (.int .i64 (errA a)) ∧ Below w.heap.size w w' := by
  by_cases h : 1 ≤ a ∧ a ≤ 4
  · rw [show errA a = 0 from if_pos h]
    obtain rfl | rfl | rfl | rfl : a = 1 ∨ a = 2 ∨ a = 3 ∨ a = 4 := by omega
    all_goals
      clear h
      go_enter Tryz.func86, Tryz.ntmps86
      go_wp2
      go_ret
      exact ⟨rfl, by (repeat (first | assumption | exact Below.refl _ _ | refine Below.drew ?_ | refine bel_drewN ?_ _ | refine Below.setCell ?_ (by first | omega | (simp; done) | (simp; omega)) _ | refine Below.alloc ?_ (by first | omega | (simp; done) | (simp; omega)) _ | refine bel_of ?_ (by assumption)))⟩
  · rw [show errA a = 81 from if_neg h]
    have n1 : ¬ a = 1 := by omega
    have n2 : ¬ a = 2 := by omega
    have n3 : ¬ a = 3 := by omega
    have n4 : ¬ a = 4 := by omega
    clear h
    go_enter Tryz.func86, Tryz.ntmps86
    go_wp2
    go_ret
    exact ⟨rfl, by (repeat (first | assumption | exact Below.refl _ _ | refine Below.drew ?_ | refine bel_drewN ?_ _ | refine Below.setCell ?_ (by first | omega | (simp; done) | (simp; omega)) _ | refine Below.alloc ?_ (by first | omega | (simp; done) | (simp; omega)) _ | refine bel_of ?_ (by assumption)))⟩
theorem checkSp (a b : Nat) (w : World) :
    Calls Tryz.prog 80 #[.agg #[.int .u16 a, .int .u16 b]] w fun e w' => e = .returned (.int .i64 (errS a b)) ∧ Below w.heap.size w w' := by
  by_cases h : b < a
  · rw [show errS a b = 30 from if_pos h]
    have h' : (b : Int) < (a : Int) := by omega
    clear h
    go_enter Tryz.func80, Tryz.ntmps80
    go_wp2
    go_ret
    exact ⟨rfl, by (repeat (first | assumption | exact Below.refl _ _ | refine Below.drew ?_ | refine bel_drewN ?_ _ | refine Below.setCell ?_ (by first | omega | (simp; done) | (simp; omega)) _ | refine Below.alloc ?_ (by first | omega | (simp; done) | (simp; omega)) _ | refine bel_of ?_ (by assumption)))⟩
  · rw [show errS a b = 0 from if_neg h]
    have h' : ¬ (b : Int) < (a : Int) := by omega
    clear h
    go_enter Tryz.func80, Tryz.ntmps80
    go_wp2
    go_ret
    exact ⟨rfl, by (repeat (first | assumption | exact Below.refl _ _ | refine Below.drew ?_ | refine bel_drewN ?_ _ | refine Below.setCell ?_ (by first | omega | (simp; done) | (simp; omega)) _ | refine Below.alloc ?_ (by first | omega | (simp; done) | (simp; omega)) _ | refine bel_of ?_ (by assumption)))⟩
end Go.Proofs.YtfpmljgmfapoiaaGreat
/-
  Rows of rules. (The same as in the texts of syntax, over the rules of RuPlain.)
-/
namespace Go.Proofs.YtfpmljgmfapoiaaGreat
open Go.RowKit
set_option linter.unusedVariables false
set_option linter.unusedSimpArgs false

def encU (p : Ru) : List Value := [.int .i64 p.i, .int .u32 p.s, .int .i64 p.sl, .int .u32 p.d, .int .i64 p.dl, .int .u16 p.p.1, .int .u16 p.p.2, .int .u16 p.q.1, .int .u16 p.q.2, .int .u8 p.m.1, .int .u8 p.m.2, .int .i64 p.act]
def flatU : List (Ru) → List Value
  | [] => []
  | p :: l => encU p ++ flatU l
theorem flatU_length (l : List (Ru)) : (flatU l).length = l.length * 12 := by
  induction l with
  | nil => rfl
  | cons p l ih => simp only [flatU, encU, List.length_append, List.length_cons, List.length_nil, ih]; omega
theorem flatU_append (l k : List (Ru)) : flatU (l ++ k) = flatU l ++ flatU k := by
  induction l with
  | nil => rfl
  | cons p l ih => simp only [flatU, List.cons_append, ih, List.append_assoc]
theorem flatU_one (l : List (Ru)) : ∀ u ∈ flatU l, u.oneCell' = true := by
  induction l with
  | nil => intro u hu; cases hu
  | cons p l ih =>
    intro u hu
    simp only [flatU, List.mem_append] at hu
    rcases hu with hu | hu
    · simp only [encU, List.mem_cons, List.not_mem_nil, or_false] at hu
      rcases hu with rfl | rfl | rfl | rfl | rfl | rfl | rfl | rfl | rfl | rfl | rfl | rfl <;> rfl
    · exact ih u hu
theorem flatU_at : ∀ (l : List (Ru)) (i : Nat) (h : i < l.length) (j : Nat) (hj : j < 12), (flatU l)[i * 12 + j]? = (encU (l[i]'h))[j]?
  | p :: l, 0, _, j, hj => by
    rw [Nat.zero_mul, Nat.zero_add]
    exact List.getElem?_append_left (by simp [encU]; omega)
  | p :: l, i + 1, h, j, hj => by
    have := flatU_at l i (by simpa using h) j hj
    show (encU p ++ flatU l)[(i + 1) * 12 + j]? = _
    rw [List.getElem?_append_right (by simp [encU]; omega), show (i + 1) * 12 + j - (encU p).length = i * 12 + j by simp [encU]; omega]
    exact this
theorem infoU : (Tryz.prog.info? 52).map (fun i => (i.zero, i.size, i.bytes)) = some (some (.agg #[.int .i64 0, .int .u32 0, .int .i64 0, .int .u32 0, .int .i64 0, .int .u16 0, .int .u16 0, .int .u16 0, .int .u16 0, .int .u8 0, .int .u8 0, .int .i64 0]), 12, 64) := by kernel_rfl
/-- The row v of w holds the list. -/
def RowU (w : World) (base : Nat) (v : Value) (l : List (Ru)) : Prop := w.ownsRow base 52 12 v l.length (flatU l)
theorem RowU.base {w : World} {b b' : Nat} {v : Value} {l : List (Ru)} (h : RowU w b v l) (hb : b' ≤ b) : RowU w b' v l := by
  refine ⟨h.1, ?_⟩
  rcases h.2 with h2 | ⟨g, cap, cur, hv, hg, r⟩
  · exact .inl h2
  · exact .inr ⟨g, cap, cur, hv, by omega, r⟩
theorem RowU.on {w w1 : World} {b : Nat} {v : Value} {l : List (Ru)} (h : RowU w b v l) (hb : Below w.heap.size w w1) : RowU w1 b v l := by
  refine ⟨h.1, ?_⟩
  rcases h.2 with h2 | ⟨g, cap, cur, hv, hg, hh, r⟩
  · exact .inl h2
  · exact .inr ⟨g, cap, cur, hv, hg, by rw [hb.block g (Array.getElem?_eq_some_iff.1 hh).1]; exact hh, r⟩
theorem RowU.alloc {w : World} {b : Nat} {v : Value} {l : List (Ru)} (h : RowU w b v l) (o : Obj) : RowU (w.alloc o) b v l := World.ownsRow.alloc h o
theorem RowU.drew {w : World} {b : Nat} {v : Value} {l : List (Ru)} (h : RowU w b v l) : RowU w.drew b v l := h
theorem RowU.nil (w : World) (b : Nat) : RowU w b (.slice none 0 0) [] := World.ownsRow_nil w b _ _
theorem RowU.one (w : World) (b : Nat) (p : Ru) (hb : b ≤ w.heap.size) : RowU (w.alloc (.cells #[.int .i64 p.i, .int .u32 p.s, .int .i64 p.sl, .int .u32 p.d, .int .i64 p.dl, .int .u16 p.p.1, .int .u16 p.p.2, .int .u16 p.q.1, .int .u16 p.q.2, .int .u8 p.m.1, .int .u8 p.m.2, .int .i64 p.act] 52)) b (.slice (some ⟨w.heap.size, 0, none⟩) 1 1) [p] :=
  World.ownsRow_lit w #[.int .i64 p.i, .int .u32 p.s, .int .i64 p.sl, .int .u32 p.d, .int .i64 p.dl, .int .u16 p.p.1, .int .u16 p.p.2, .int .u16 p.q.1, .int .u16 p.q.2, .int .u8 p.m.1, .int .u8 p.m.2, .int .i64 p.act] 1 hb (by simp [maxLen]) rfl
theorem RowU.lt {w : World} {b : Nat} {v : Value} {l : List (Ru)} (h : RowU w b v l) : ∀ k, v.ownBlock = some k → b ≤ k ∧ k < w.heap.size := World.ownsRow.lt h
theorem RowU.put {w : World} {b : Nat} {v : Value} {l : List (Ru)} (h : RowU w b v l) {g i : Nat} (hg : some g ≠ v.ownBlock) (u : Value) : RowU (w.setCell ⟨g, i, none⟩ u) b v l := by
  refine ⟨h.1, ?_⟩
  rcases h.2 with h2 | ⟨g', cap, cur, hv, hb, hh, r⟩
  · exact .inl h2
  · exact .inr ⟨g', cap, cur, hv, hb, by rw [Below.heap_setCell _ _ _ _ (by intro e; apply hg; rw [hv]; simp [Value.ownBlock, e])]; exact hh, r⟩
theorem bel_grownU {B : Nat} {a w w' : World} {b : Nat} {v : Value} {l : List (Ru)} (h : Below B a w) (hr : RowU w b v l) (hg : w.grownBy w' v.ownBlock) (hB : B ≤ w.heap.size) (hb : B ≤ b) : Below B a w' :=
  h.grown hg hB fun k hk => Nat.le_trans hb (hr.lt k hk).1
/-- What a row looks like. -/
theorem RowU.form {w : World} {b : Nat} {v : Value} {l : List (Ru)} (h : RowU w b v l) :
    ∃ (ad : Option Addr) (cap : Nat), v = .slice ad l.length cap ∧ l.length ≤ cap ∧ (0 < l.length → ∃ g, ad = some ⟨g, 0, none⟩ ∧ b ≤ g ∧ g < w.heap.size ∧ ∀ k (hk : k < l.length) j, j < 12 → w.cell? ⟨g, k * 12 + j, none⟩ = (encU (l[k]'hk))[j]?) := by
  rcases h.2 with ⟨hv, hn⟩ | ⟨g, cap, cur, hv, hb, hg, hcap, r⟩
  · exact ⟨none, 0, by rw [hv, hn], by omega, fun h0 => by omega⟩
  · subst hv
    refine ⟨_, cap, rfl, hcap, fun _ => ⟨g, rfl, hb, (Array.getElem?_eq_some_iff.1 hg).1, fun k hk j hj => ?_⟩⟩
    have h' : w.ownsRow b 52 12 (.slice (some ⟨g, 0, none⟩) l.length cap) l.length (flatU l) := h
    rw [h'.cellAt (k * 12 + j) (by omega), flatU_at l k hk j hj]
theorem RowU.frozen {w : World} {b g cap n : Nat} {l : List (Ru)} (h : RowU w b (.slice (some ⟨g, 0, none⟩) n cap) l) (j : Nat) : w.frozen? ⟨g, j, none⟩ = false := by
  rcases h.2 with ⟨hv, _⟩ | ⟨g', cap', cur, hv, hb, hg, r⟩
  · cases hv
  · cases hv; simp [World.frozen?, hg]

end Go.Proofs.YtfpmljgmfapoiaaGreat
/-
  Rules in an order: the place of an id, the first match, what may join, what is put in, taken out, moved. No program is named here.
-/
namespace Go.Proofs.YtfpmljgmfapoiaaGreat
set_option linter.unusedVariables false

/-- The place of an id, from a place on; -1: none. -/
def fndK (id : Int) : List Ru → Nat → Int
  | [], _ => -1
  | R :: l, k => if R.i = id then (k : Int) else fndK id l (k + 1)
def fnd (l : List Ru) (id : Int) : Int := fndK id l 0
theorem drop_cons {α : Type} {l : List α} {k : Nat} (h : k < l.length) : l.drop k = l[k] :: l.drop (k + 1) := List.drop_eq_getElem_cons h
theorem fndK_hit {l : List Ru} {k : Nat} {id : Int} (h : k < l.length) (e : (l[k]'h).i = id) : fndK id (l.drop k) k = (k : Int) := by
  rw [drop_cons h, fndK, if_pos e]
theorem fndK_no {l : List Ru} {k : Nat} {id : Int} (h : k < l.length) (e : ¬ (l[k]'h).i = id) : fndK id (l.drop k) k = fndK id (l.drop (k + 1)) (k + 1) := by
  rw [drop_cons h, fndK, if_neg e]
theorem fndK_end {l : List Ru} {k : Nat} {id : Int} (h : l.length ≤ k) : fndK id (l.drop k) k = -1 := by
  rw [List.drop_eq_nil_of_le h, fndK]
theorem fndK_range (id : Int) : ∀ (l : List Ru) (k : Nat), fndK id l k = -1 ∨ ((k : Int) ≤ fndK id l k ∧ fndK id l k < k + l.length)
  | [], k => .inl rfl
  | R :: l, k => by
    unfold fndK
    split
    · right; simp only [List.length_cons]; omega
    · have := fndK_range id l (k + 1)
      simp only [List.length_cons]
      omega
theorem fnd_range (l : List Ru) (id : Int) : fnd l id = -1 ∨ (0 ≤ fnd l id ∧ fnd l id < l.length) := by
  have := fndK_range id l 0
  unfold fnd
  omega
theorem fndK_none {id : Int} : ∀ (l : List Ru) (k : Nat), fndK id l k = -1 ↔ ∀ R ∈ l, R.i ≠ id
  | [], k => by simp [fndK]
  | R :: l, k => by
    unfold fndK
    have ih := fndK_none (id := id) l (k + 1)
    by_cases h : R.i = id
    · rw [if_pos h]; simp [h]
    · rw [if_neg h, ih]; simp [h]
theorem fnd_none {l : List Ru} {id : Int} : fnd l id = -1 ↔ ∀ R ∈ l, R.i ≠ id := fndK_none l 0
theorem fndK_at {id : Int} : ∀ (l : List Ru) (b k : Nat) (h : k < l.length), (l[k]'h).i = id → (∀ j (hj : j < k), (l[j]'(by omega)).i ≠ id) → fndK id l b = ((b + k : Nat) : Int)
  | R :: l, b, 0, h, e, hn => by
    unfold fndK; rw [if_pos (by simpa using e)]; rfl
  | R :: l, b, k + 1, h, e, hn => by
    unfold fndK
    rw [if_neg (by simpa using hn 0 (by omega)), fndK_at l (b + 1) k (by simpa using h) (by simpa using e) (fun j hj => by simpa using hn (j + 1) (by omega))]
    congr 1; omega
theorem fnd_get {l : List Ru} {id : Int} {k : Nat} (h : fnd l id = (k : Int)) : ∃ hk : k < l.length, (l[k]'hk).i = id := by
  have gen : ∀ (l : List Ru) (b : Nat), fndK id l b ≠ -1 → ∃ j, ∃ hj : j < l.length, (l[j]'hj).i = id ∧ fndK id l b = ((b + j : Nat) : Int) := by
    intro l
    induction l with
    | nil => intro b hb; exact absurd rfl hb
    | cons R l ih =>
      intro b hb
      unfold fndK at hb ⊢
      by_cases h : R.i = id
      · rw [if_pos h]; exact ⟨0, by simp, by simpa using h, rfl⟩
      · rw [if_neg h] at hb ⊢
        obtain ⟨j, hj, e1, e2⟩ := ih (b + 1) hb
        exact ⟨j + 1, by simpa using hj, by simpa using e1, by rw [e2]; congr 1; omega⟩
  obtain ⟨j, hj, e1, e2⟩ := gen l 0 (by unfold fnd at h; omega)
  have : j = k := by unfold fnd at h; omega
  subst this
  exact ⟨hj, e1⟩
/-- The first match, from a place on; -1: none. -/
def matK (h : Hd) : List Ru → Nat → Int
  | [], _ => -1
  | R :: l, k => if matchR R h = true then (k : Int) else matK h l (k + 1)
def mat (l : List Ru) (h : Hd) : Int := matK h l 0
theorem matK_hit {l : List Ru} {k : Nat} {h : Hd} (hk : k < l.length) (e : matchR (l[k]'hk) h = true) : matK h (l.drop k) k = (k : Int) := by
  rw [drop_cons hk, matK, if_pos e]
theorem matK_no {l : List Ru} {k : Nat} {h : Hd} (hk : k < l.length) (e : matchR (l[k]'hk) h = false) : matK h (l.drop k) k = matK h (l.drop (k + 1)) (k + 1) := by
  rw [drop_cons hk, matK, if_neg (by simp [e])]
theorem matK_end {l : List Ru} {k : Nat} {h : Hd} (hk : l.length ≤ k) : matK h (l.drop k) k = -1 := by
  rw [List.drop_eq_nil_of_le hk, matK]
/-- The verdict of a place: hit, id, action. -/
def vdH (k : Int) : Bool := decide (0 ≤ k)
def vdI (l : List Ru) (k : Int) : Int := if 0 ≤ k then (l.getD k.toNat ⟨0, 0, 0, 0, 0, (0, 0), (0, 0), (0, 0), 0⟩).i else 0
def vdA (A : Int) (l : List Ru) (k : Int) : Int := if 0 ≤ k then (l.getD k.toNat ⟨0, 0, 0, 0, 0, (0, 0), (0, 0), (0, 0), 0⟩).act else A
theorem getD_at {l : List Ru} {k : Nat} (h : k < l.length) (z : Ru) : l.getD k z = l[k] := by simp [h]
theorem vdI_at {l : List Ru} {k : Nat} (h : k < l.length) : vdI l (k : Int) = (l[k]'h).i := by unfold vdI; rw [if_pos (by omega), Int.toNat_natCast, getD_at h]
theorem vdA_at {A : Int} {l : List Ru} {k : Nat} (h : k < l.length) : vdA A l (k : Int) = (l[k]'h).act := by unfold vdA; rw [if_pos (by omega), Int.toNat_natCast, getD_at h]
/-- Why a rule may not stand in one list with others. -/
def joinE (l : List Ru) (R : Ru) : Int := if (errs R).1 = 0 then (if 0 ≤ fnd l R.i then 111 else 0) else (errs R).1
def insE (l : List Ru) (M p : Int) (R : Ru) : Int := if joinE l R = 0 then (if 0 ≤ p ∧ p ≤ l.length then (if M ≤ l.length then 113 else 0) else 112) else joinE l R
def putL (l : List Ru) (p : Nat) (R : Ru) : List Ru := l.take p ++ R :: l.drop p
def insL (l : List Ru) (M p : Int) (R : Ru) : List Ru := if insE l M p R = 0 then putL l p.toNat R else l
def delE (l : List Ru) (id : Int) : Int := if 0 ≤ fnd l id then 0 else 114
def outL (l : List Ru) (k : Nat) : List Ru := l.take k ++ l.drop (k + 1)
def delL (l : List Ru) (id : Int) : List Ru := if 0 ≤ fnd l id then outL l (fnd l id).toNat else l
def setK (M : Int) : List Ru → List Ru → Int
  | _, [] => 0
  | pre, R :: t => if joinE pre R = 0 then (if M ≤ pre.length then 113 else setK M (pre ++ [R]) t) else joinE pre R
def setE (l : List Ru) (M : Int) : Int := setK M [] l
theorem take_snoc {l : List Ru} {k : Nat} (h : k < l.length) : l.take k ++ [l[k]] = l.take (k + 1) := by rw [List.take_succ_eq_append_getElem h]
theorem setK_bad {l : List Ru} {M : Int} {k : Nat} (h : k < l.length) (e : joinE (l.take k) l[k] ≠ 0) : setK M (l.take k) (l.drop k) = joinE (l.take k) l[k] := by
  rw [drop_cons h, setK, if_neg e]
theorem setK_full {l : List Ru} {M : Int} {k : Nat} (h : k < l.length) (e : joinE (l.take k) l[k] = 0) (hm : M ≤ (k : Int)) : setK M (l.take k) (l.drop k) = 113 := by
  rw [drop_cons h, setK, if_pos e, if_pos (by rw [List.length_take]; omega)]
theorem setK_next {l : List Ru} {M : Int} {k : Nat} (h : k < l.length) (e : joinE (l.take k) l[k] = 0) (hm : (k : Int) < M) : setK M (l.take k) (l.drop k) = setK M (l.take (k + 1)) (l.drop (k + 1)) := by
  rw [drop_cons h, setK, if_pos e, if_neg (by rw [List.length_take]; omega), take_snoc h]
theorem setK_end {l : List Ru} {M : Int} {k : Nat} (h : l.length ≤ k) : setK M (l.take k) (l.drop k) = 0 := by
  rw [List.drop_eq_nil_of_le h, setK]
theorem joinE_ok {l : List Ru} {R : Ru} : joinE l R = 0 ↔ (errs R).1 = 0 ∧ fnd l R.i = -1 := by
  unfold joinE
  have := fnd_range l R.i
  by_cases h : (errs R).1 = 0
  · rw [if_pos h]
    by_cases h2 : 0 ≤ fnd l R.i
    · rw [if_pos h2]; simp; omega
    · rw [if_neg h2]; simp; exact ⟨h, by omega⟩
  · rw [if_neg h]; simp [h]
/-- A list that may be: each rule may be, no id twice, no more than may be. -/
structure OkL (M : Int) (l : List Ru) : Prop where
  may : ∀ k (h : k < l.length), okR (l[k]'h) = true
  one : ∀ k (h : k < l.length), fnd (l.take k) (l[k]'h).i = -1
  few : l = [] ∨ (l.length : Int) ≤ M
theorem setK_ok (M : Int) : ∀ (t pre : List Ru), setK M pre t = 0 → ∀ k (h : k < t.length), okR (t[k]'h) = true ∧ fnd (pre ++ t.take k) (t[k]'h).i = -1 ∧ ((pre.length + k : Nat) : Int) < M
  | [], pre, _, k, h => by simp at h
  | R :: t, pre, e, k, h => by
    unfold setK at e
    by_cases h1 : joinE pre R = 0
    · rw [if_pos h1] at e
      by_cases h2 : M ≤ pre.length
      · rw [if_pos h2] at e; exact absurd e (by decide)
      · rw [if_neg h2] at e
        cases k with
        | zero =>
          obtain ⟨j1, j2⟩ := joinE_ok.1 h1
          exact ⟨(okR_err R).2 j1, by simpa using j2, by simp; omega⟩
        | succ k =>
          have ih := setK_ok M t (pre ++ [R]) e k (by simpa using h)
          simp only [List.length_append, List.length_cons, List.length_nil, List.append_assoc, List.singleton_append] at ih
          exact ⟨by simpa using ih.1, by simpa using ih.2.1, by have := ih.2.2; omega⟩
    · rw [if_neg h1] at e; exact absurd e h1
theorem setE_ok {l : List Ru} {M : Int} (h : setE l M = 0) : OkL M l := by
  have := setK_ok M l [] h
  refine ⟨fun k hk => (this k hk).1, fun k hk => by simpa using (this k hk).2.1, ?_⟩
  cases l with
  | nil => exact .inl rfl
  | cons R t => right; have := (this t.length (by simp)).2.2; simp at this ⊢; omega
/-- Ids are different at different places. -/
theorem OkL.ne {M : Int} {l : List Ru} (o : OkL M l) {j k : Nat} (hj : j < k) (hk : k < l.length) : (l[j]'(by omega)).i ≠ (l[k]'hk).i := by
  have := (fnd_none.1 (o.one k hk)) (l[j]'(by omega)) (by
    rw [List.mem_take_iff_getElem]
    exact ⟨j, by omega, rfl⟩)
  exact this
theorem OkL.fnd {M : Int} {l : List Ru} (o : OkL M l) {k : Nat} (hk : k < l.length) : fnd l (l[k]'hk).i = (k : Int) := by
  have := fndK_at (id := (l[k]'hk).i) l 0 k hk rfl (fun j hj => o.ne hj hk)
  unfold Go.Proofs.YtfpmljgmfapoiaaGreat.fnd
  rw [this, Nat.zero_add]
theorem OkL.gone {M : Int} {l : List Ru} (o : OkL M l) {k : Nat} (hk : k < l.length) : Go.Proofs.YtfpmljgmfapoiaaGreat.fnd (outL l k) (l[k]'hk).i = -1 := by
  rw [fnd_none]
  intro R hR
  unfold outL at hR
  rw [List.mem_append] at hR
  rcases hR with hR | hR
  · rw [List.mem_take_iff_getElem] at hR
    obtain ⟨j, hj, rfl⟩ := hR
    exact o.ne (by omega) hk
  · rw [List.mem_drop_iff_getElem] at hR
    obtain ⟨j, hj, rfl⟩ := hR
    exact fun e => o.ne (j := k) (k := k + 1 + j) (by omega) (by omega) (by simpa [Nat.add_comm, Nat.add_left_comm, Nat.add_assoc] using e.symm)
end Go.Proofs.YtfpmljgmfapoiaaGreat
/-
  Lists of rules that are read, cut, copied over, within one block or not; what a call that writes a table leaves as it was.
-/
namespace Go.Proofs.YtfpmljgmfapoiaaGreat
open Go.RowKit
set_option linter.unusedVariables false
set_option linter.unusedSimpArgs false

/-- The slice v of w reads as the list of rules. -/
def SrcU (w : World) (v : Value) (l : List Ru) : Prop :=
  ∃ (ad : Option Addr) (cap : Nat), v = .slice ad l.length cap ∧ (l.length ≤ cap ∧ (ad = none → cap = 0)) ∧ (0 < l.length → ∃ g off, ad = some ⟨g, off, none⟩ ∧ ∀ k (hk : k < l.length) j, j < 12 → w.cell? ⟨g, off + (k * 12 + j), none⟩ = (encU (l[k]'hk))[j]?)
theorem encU_some (R : Ru) {j : Nat} (h : j < 12) : ∃ v, (encU R)[j]? = some v := ⟨(encU R)[j]'(by simp [encU]; omega), List.getElem?_eq_getElem _⟩
theorem SrcU.keep {w w1 : World} {v : Value} {l : List Ru} (h : SrcU w v l) (hb : Below w.heap.size w w1) : SrcU w1 v l := by
  obtain ⟨ad, cap, rfl, hc, h2⟩ := h
  refine ⟨ad, cap, rfl, hc, fun h0 => ?_⟩
  obtain ⟨g, off, rfl, h3⟩ := h2 h0
  exact ⟨g, off, rfl, fun k hk j hj => by
    have := h3 k hk j hj
    obtain ⟨u, hu⟩ := encU_some (l[k]'hk) hj
    rw [hb.cell (World.block_lt_of_cell? w _ (this.trans hu))]; exact this⟩
/-- A source whose block stays. -/
theorem SrcU.stay {w w1 : World} {v : Value} {l : List Ru} (h : SrcU w v l) (hb : ∀ k, v.ownBlock = some k → k < w.heap.size → w1.heap[k]? = w.heap[k]?) : SrcU w1 v l := by
  obtain ⟨ad, cap, rfl, hc, h2⟩ := h
  refine ⟨ad, cap, rfl, hc, fun h0 => ?_⟩
  obtain ⟨g, off, rfl, h3⟩ := h2 h0
  exact ⟨g, off, rfl, fun k hk j hj => by
    have := h3 k hk j hj
    obtain ⟨u, hu⟩ := encU_some (l[k]'hk) hj
    have hlt := World.block_lt_of_cell? w _ (this.trans hu)
    rw [World.cell?_of_block (w := w) (a := ⟨g, off + (k * 12 + j), none⟩) (hb g rfl hlt)]; exact this⟩
theorem RowU.src {w : World} {b : Nat} {v : Value} {l : List Ru} (h : RowU w b v l) : SrcU w v l := by
  obtain ⟨ad, cap, hv, hc, h2⟩ := h.form
  refine ⟨ad, cap, hv, ⟨hc, fun e => ?_⟩, fun h0 => ?_⟩
  · subst e
    rcases h.2 with ⟨hv', _⟩ | ⟨g, cap', cur, hv', _⟩
    · rw [hv] at hv'; injection hv'
    · rw [hv] at hv'; cases hv'
  obtain ⟨g, e, _, _, h3⟩ := h2 h0
  exact ⟨g, 0, e, fun k hk j hj => by rw [Nat.zero_add]; exact h3 k hk j hj⟩
theorem SrcU.flat {w : World} {g off n cap : Nat} {l : List Ru} (h : SrcU w (.slice (some ⟨g, off, none⟩) n cap) l) : ∀ j u, (flatU l)[j]? = some u → w.cell? ((⟨g, off, none⟩ : Addr).add j) = some u := by
  intro j u hu
  obtain ⟨ad, c, e, hc, h2⟩ := h
  cases e
  have hj : j < (flatU l).length := (List.getElem?_eq_some_iff.1 hu).1
  rw [flatU_length] at hj
  obtain ⟨g', off', e', h3⟩ := h2 (by omega)
  cases e'
  have hk : j / 12 < l.length := by omega
  have hm : j % 12 < 12 := Nat.mod_lt _ (by decide)
  have e1 : j / 12 * 12 + j % 12 = j := by omega
  have h4 := flatU_at l (j / 12) hk (j % 12) hm
  rw [e1] at h4
  have h5 := h3 (j / 12) hk (j % 12) hm
  rw [e1] at h5
  rw [Addr.add_lit, h5, ← h4]
  exact hu
theorem flatU_take (l : List Ru) (p : Nat) : (flatU l).take (p * 12) = flatU (l.take p) := by
  by_cases h : p ≤ l.length
  · have e := flatU_append (l.take p) (l.drop p)
    rw [List.take_append_drop] at e
    rw [e]
    have hl : (flatU (l.take p)).length = p * 12 := by rw [flatU_length, List.length_take]; congr 1; omega
    rw [List.take_append_of_le_length (by omega), List.take_of_length_le (by omega)]
  · rw [List.take_of_length_le (by rw [flatU_length]; omega), List.take_of_length_le (by omega)]
theorem flatU_drop (l : List Ru) (p : Nat) : (flatU l).drop (p * 12) = flatU (l.drop p) := by
  by_cases h : p ≤ l.length
  · have e := flatU_append (l.take p) (l.drop p)
    rw [List.take_append_drop] at e
    rw [e]
    have hl : (flatU (l.take p)).length = p * 12 := by rw [flatU_length, List.length_take]; congr 1; omega
    rw [← hl, List.drop_left]
  · rw [List.drop_eq_nil_of_le (by rw [flatU_length]; omega), List.drop_eq_nil_of_le (by omega)]; rfl
/-- A cut of a slice. -/
def cutU (ad : Option Addr) (l h cap : Nat) : Value := .slice (if cap = l then ad else ad.map (·.add (l * 12))) (h - l) (cap - l)
theorem cutU_zero (ad : Option Addr) (n cap : Nat) : cutU ad 0 n cap = .slice ad n cap := by
  unfold cutU
  cases ad with
  | none => simp
  | some a => obtain ⟨b, o, s⟩ := a; simp [Addr.add]
theorem sizeU (w : World) : (sizeOf 52).run Tryz.prog w = .ok 12 w := by
  obtain ⟨i0, hi, hz0, hz1, hz2⟩ := info_parts infoU
  simp [sizeOf, typeInfo, hi, hz1]
theorem elemU : Tryz.prog.elem 42 = 52 := by kernel_rfl
theorem underU : Tryz.prog.underlying 42 = some (.slice (Tryz.prog.elem 42)) := by rw [elemU]; exact Tryz.underlying42
theorem run_cut_l (w : World) (ad : Option Addr) (n cap l : Nat) (h1 : l ≤ n) : (Instr.sliceAt 42 (.slice ad n cap) (some (.int .i64 l)) none none).run Tryz.prog w = .ok (cutU ad l n cap) w := by
  rw [run_sliceAt_slice _ _ _ _ _ _ underU, run_slice_l w 42 ad n cap underU .i64 l (by omega) (by omega), elemU, sizeU]
  simp [Result.andThen, sliced, cutU]
theorem run_cut_h (w : World) (ad : Option Addr) (n cap h : Nat) (h2 : h ≤ cap) : (Instr.sliceAt 42 (.slice ad n cap) none (some (.int .i64 h)) none).run Tryz.prog w = .ok (cutU ad 0 h cap) w := by
  rw [run_sliceAt_slice _ _ _ _ _ _ underU, run_slice_h w 42 ad n cap underU .i64 h (by omega) (by omega), elemU, sizeU]
  simp [Result.andThen, sliced, cutU]
theorem SrcU.cut {w : World} {ad : Option Addr} {n cap : Nat} {l : List Ru} (h : SrcU w (.slice ad n cap) l) (lo hi : Nat) (h1 : lo ≤ hi) (h2 : hi ≤ l.length) : SrcU w (cutU ad lo hi cap) ((l.take hi).drop lo) := by
  obtain ⟨ad', c, e, hc, h3⟩ := h
  cases e
  have hlen : ((l.take hi).drop lo).length = hi - lo := by rw [List.length_drop, List.length_take]; omega
  refine ⟨(if cap = lo then ad else ad.map (·.add (lo * 12))), cap - lo, ?_, ?_, fun h0 => ?_⟩
  · unfold cutU; rw [hlen]
  · refine ⟨by rw [hlen]; omega, fun e => ?_⟩
    split at e
    · omega
    · cases ad with
      | none => have := hc.2 rfl; omega
      | some a => cases e
  · rw [hlen] at h0
    obtain ⟨g, off, rfl, h4⟩ := h3 (by omega)
    rw [if_neg (by omega)]
    refine ⟨g, off + lo * 12, by simp [Addr.add], fun k hk j hj => ?_⟩
    rw [hlen] at hk
    have := h4 (lo + k) (by omega) j hj
    rw [show off + lo * 12 + (k * 12 + j) = off + ((lo + k) * 12 + j) by omega, this]
    congr 2
    simp
/-- A row with something in it. -/
theorem RowU.some {w : World} {b : Nat} {v : Value} {l : List Ru} (h : RowU w b v l) (h0 : 0 < l.length) : ∃ g cap, v = .slice (.some ⟨g, 0, none⟩) l.length cap ∧ l.length ≤ cap ∧ b ≤ g ∧ g < w.heap.size := by
  obtain ⟨ad, cap, hv, hc, h2⟩ := h.form
  obtain ⟨g, rfl, hb, hg, _⟩ := h2 h0
  exact ⟨g, cap, hv, hc, hb, hg⟩
/-- Rules laid over a row from a place on. -/
theorem RowU.over {w w' : World} {b g n cap : Nat} {l : List Ru} (h : RowU w b (.slice (.some ⟨g, 0, none⟩) n cap) l) (p : Nat) (k : List Ru) (hf : p + k.length ≤ n)
    (hw : ∀ cur, w.heap[g]? = .some (.cells cur 52 (0, 0)) → w'.heap[g]? = .some (.cells (cur.toList.take (p * 12) ++ flatU k ++ cur.toList.drop (p * 12 + (flatU k).length)).toArray 52 (0, 0))) :
    RowU w' b (.slice (.some ⟨g, 0, none⟩) n cap) (l.take p ++ k ++ l.drop (p + k.length)) := by
  have hn : l.length = n := by
    rcases h.2 with ⟨hv, _⟩ | ⟨g', cap', cur, hv, _⟩
    · cases hv
    · cases hv; rfl
  subst hn
  have hlen : (l.take p ++ k ++ l.drop (p + k.length)).length = l.length := by simp; omega
  rcases h.2 with ⟨hv, _⟩ | ⟨g', cap', cur, hv, hb, hg, hc, hm, hs, ht⟩
  · cases hv
  · cases hv
    refine ⟨by rw [hlen, flatU_length, hlen], .inr ⟨g, cap, _, by rw [hlen], hb, hw cur hg, by rw [hlen]; exact hc, hm, ?_, ?_⟩⟩
    · rw [flatU_length]
      simp only [List.size_toArray, List.length_append, List.length_take, List.length_drop, Array.length_toList, flatU_length]
      omega
    · rw [hlen]
      have e1 : cur.toList.take (p * 12) = flatU (l.take p) := by
        rw [← flatU_take, ← ht, List.take_take]; congr 1; omega
      have e2 : (cur.toList.drop (p * 12 + (flatU k).length)).take (l.length * 12 - (p * 12 + (flatU k).length)) = flatU (l.drop (p + k.length)) := by
        rw [← flatU_drop, ← ht, List.drop_take, flatU_length]
        rw [show p * 12 + k.length * 12 = (p + k.length) * 12 by omega]
      have l1 : (flatU (l.take p)).length = p * 12 := by rw [flatU_length, List.length_take]; omega
      rw [e1, flatU_append, flatU_append, ← e2]
      have l2 := flatU_length k
      rw [List.take_append, List.take_of_length_le (by rw [List.length_append, l1, l2]; omega)]
      congr 2
      rw [List.length_append, l1]
/-- 'copy' into a row that the program owns, from a place on. -/
theorem run_copyU (w : World) (ty : TypeId) (b g n cap : Nat) (l : List Ru) (hr : RowU w b (.slice (.some ⟨g, 0, none⟩) n cap) l) (p : Nat) (hp : p ≤ n) (u : Value) (k : List Ru) (hs : SrcU w u k) :
    ∃ w', (Builtin.copy_ #[42, 42] ty #[cutU (.some ⟨g, 0, none⟩) p n cap, u]).run Tryz.prog w = .ok (goInt (Nat.min k.length (n - p))) w' ∧
      RowU w' b (.slice (.some ⟨g, 0, none⟩) n cap) (l.take p ++ k.take (n - p) ++ l.drop (p + (k.take (n - p)).length)) ∧ w.grownBy w' (.some g) := by
  obtain ⟨i0, hi, hz0, hz1, hz2⟩ := info_parts infoU
  have hn : l.length = n := by
    rcases hr.2 with ⟨hv, _⟩ | ⟨g', cap', cur, hv, _⟩
    · cases hv
    · cases hv; rfl
  have hsu := hs
  obtain ⟨ad, c, rfl, hc, h2⟩ := hs
  have hmin : (k.take (n - p)).length = Nat.min k.length (n - p) := by rw [List.length_take, Nat.min_comm]
  obtain ⟨cur, hg, hcs⟩ : ∃ cur, w.heap[g]? = .some (.cells cur 52 (0, 0)) ∧ cur.size = cap * 12 ∧ n ≤ cap := by
    rcases hr.2 with ⟨hv, _⟩ | ⟨g', cap', cur, hv, hb, hg, hc, hm, hs, ht⟩
    · cases hv
    · cases hv; exact ⟨cur, hg, hs, by omega⟩
  by_cases h0 : 0 < Nat.min k.length (n - p)
  · have h0k : 0 < k.length := by have := Nat.min_le_left k.length (n - p); simp only [Nat.min_def] at *; split at h0 <;> omega
    have h0n : 0 < n - p := by simp only [Nat.min_def] at h0; split at h0 <;> omega
    obtain ⟨g2, off, rfl, h3⟩ := h2 h0k
    have hfl := hsu.flat
    have hl := run_loadCells_list (P := Tryz.prog) w ⟨g2, off, none⟩ (flatU (k.take (n - p))) (fun j v hv => hfl j v (by
      rw [← flatU_take] at hv
      have := List.getElem?_take (l := flatU k) (i := (n - p) * 12) (j := j)
      rw [this] at hv
      split at hv
      · exact hv
      · cases hv))
    rw [flatU_length, hmin] at hl
    have hst := run_storeCells_at Tryz.prog g (p * 12) 52 (flatU (k.take (n - p))) 0 cur w hg (by rw [flatU_length, hmin]; simp only [Nat.min_def]; split <;> omega) (flatU_one _)
    refine ⟨w.setRow g (cur.toList.take (p * 12 + 0) ++ flatU (k.take (n - p)) ++ cur.toList.drop (p * 12 + 0 + (flatU (k.take (n - p))).length)).toArray, ?_, hr.over p (k.take (n - p)) (by rw [hmin]; simp only [Nat.min_def]; split <;> omega) (fun cur' hg' => ?_), ⟨rfl, rfl, rfl, by simp, fun x _ hx => setRow_other w g x _ (fun e => hx (by simp [e]))⟩⟩
    · unfold cutU
      rw [if_neg (by omega)]
      simp [Builtin.copy_, Tryz.runUnderlying42, Builtin.lenOf, Builtin.firstCells, sizeOf, typeInfo, hi, hz1, hl, Addr.add_lit]
      simp at hst
      rw [hst]
      simp [Result.andThen]
    · rw [hg] at hg'
      cases hg'
      have := setRow_heap w g cur (cur.toList.take (p * 12 + 0) ++ flatU (k.take (n - p)) ++ cur.toList.drop (p * 12 + 0 + (flatU (k.take (n - p))).length)).toArray _ _ hg
      simpa using this
  · have e0 : Nat.min k.length (n - p) = 0 := by omega
    have ek : k.take (n - p) = [] := List.eq_nil_of_length_eq_zero (by rw [hmin]; exact e0)
    refine ⟨w, ?_, ?_, ⟨rfl, rfl, rfl, Nat.le_refl _, fun _ _ _ => rfl⟩⟩
    · have hl : ∀ (x : Addr), (loadCells x 0).run Tryz.prog w = .ok #[] w := fun x => by simpa using run_loadCells_list (P := Tryz.prog) w x [] (by simp)
      unfold cutU
      rw [e0]
      have e0' : min k.length (n - p) = 0 := e0
      cases ad <;> (split <;> simp [Builtin.copy_, Tryz.runUnderlying42, Builtin.lenOf, Builtin.firstCells, sizeOf, typeInfo, hi, hz1, storeCells, hl, e0'])
    · rw [ek]; simpa using hr
/-- 'append' of a source to an owned row; where the new row lies. -/
theorem run_appendSU (w : World) (ty : TypeId) (b : Nat) (v : Value) (l : List Ru) (h : RowU w b v l) (u : Value) (k : List Ru) (hk : SrcU w u k) (hb : b ≤ w.heap.size) (hsz : l.length + k.length ≤ 4294967296) :
    ∃ v' w', (Builtin.append_ #[42, 42] ty #[v, u]).run Tryz.prog w = .ok v' w' ∧ RowU w' b v' (l ++ k) ∧ w.grownBy w' v.ownBlock ∧ (v'.ownBlock = v.ownBlock ∨ v'.ownBlock = .some w.heap.size) := by
  obtain ⟨i0, hi, hz0, hz1, hz2⟩ := info_parts infoU
  have hmx : l.length + k.length ≤ maxLen := by unfold maxLen; omega
  have hk' := hk
  obtain ⟨ad, c, rfl, hc, h2⟩ := hk
  cases ad with
  | none =>
    have h0 : k.length = 0 := by have := hc.1; have := hc.2 rfl; omega
    have hc0 : c = 0 := hc.2 rfl
    have hr := run_append_owned_none (P := Tryz.prog) (w := w) b 42 ty 52 i0 12 Tryz.underlying42 hi v l.length (flatU l) h
    rw [h0, hc0]
    refine ⟨v, w, hr, ?_, ⟨rfl, rfl, rfl, Nat.le_refl _, fun _ _ _ => rfl⟩, .inl rfl⟩
    rw [List.eq_nil_of_length_eq_zero h0, List.append_nil]
    exact h
  | some a =>
    have hfl : ∀ j x, (flatU k)[j]? = .some x → w.cell? (a.add j) = .some x := by
      by_cases h0 : 0 < k.length
      · obtain ⟨g, off, e, _⟩ := h2 h0
        cases e
        exact hk'.flat
      · rw [List.eq_nil_of_length_eq_zero (by omega : k.length = 0)]
        intro j x hx
        simp [flatU] at hx
    obtain ⟨v', w', hr, ho, hgr, _, hat⟩ := run_append_own_at (P := Tryz.prog) w b 42 ty 52 i0 (.agg #[.int .i64 0, .int .u32 0, .int .i64 0, .int .u32 0, .int .i64 0, .int .u16 0, .int .u16 0, .int .u16 0, .int .u16 0, .int .u8 0, .int .u8 0, .int .i64 0]) 12 64 Tryz.underlying42 hi hz0 hz1 hz2 rfl (by decide) v l.length (flatU l) h a k.length c (flatU k) (flatU_length k) hfl (flatU_one k) hmx (by omega) hb
    refine ⟨v', w', hr, ?_, hgr, hat⟩
    unfold RowU
    rw [List.length_append, flatU_append]
    exact ho
theorem wpList_appendSU {ops : Array Oper} {rest : List Oper} {o : Oper} {a : Act} {w : World} {Q : Exit → Act → World → Prop} (hgd : o.guard = none) (s x : Operand)
    (ho : o.op = .call { callee := .builtin .append, args := #[s, x], argTypes := #[42, 42] })
    (b : Nat) (v : Value) (l : List Ru) (hs : a.eval s = v) (h : RowU w b v l) (u : Value) (k : List Ru) (hx : a.eval x = u) (hk : SrcU w u k)
    (hb : b ≤ w.heap.size) (hsz : l.length + k.length ≤ 4294967296)
    (hK : ∀ v' w', RowU w' b v' (l ++ k) → w.grownBy w' v.ownBlock → (v'.ownBlock = v.ownBlock ∨ v'.ownBlock = .some w.heap.size) → wpList Tryz.prog ops Q rest (a.put o.dst v') w') : wpList Tryz.prog ops Q (o :: rest) a w := by
  refine wpList_plain hgd fun K hK' => ?_
  obtain ⟨v', w', hr, h2, h3, h4⟩ := run_appendSU w o.type b v l h u k hk hb hsz
  unfold Oper.wp execOp
  simp only [ho, resolve, invoke, builtin, Sem.run_bind, Sem.run_pure, Result.andThen_ok, List.map_toArray, List.map_cons, List.map_nil, hs, hx, hr]
  exact hK' _ _ (hK v' w' h2 h3 h4)
theorem wp_copyU {o : Oper} {a : Act} {w : World} {K : Act → World → Prop} {Q : Exit → Act → World → Prop} (s x : Operand)
    (ho : o.op = .call { callee := .builtin .copy, args := #[s, x], argTypes := #[42, 42] })
    (b g n cap : Nat) (l : List Ru) (hr : RowU w b (.slice (.some ⟨g, 0, none⟩) n cap) l) (p : Nat) (hp : p ≤ n) (hd : a.eval s = cutU (.some ⟨g, 0, none⟩) p n cap) (u : Value) (k : List Ru) (hx : a.eval x = u) (hs : SrcU w u k)
    (hK : ∀ w', RowU w' b (.slice (.some ⟨g, 0, none⟩) n cap) (l.take p ++ k.take (n - p) ++ l.drop (p + (k.take (n - p)).length)) → w.grownBy w' (.some g) → K (a.put o.dst (goInt (Nat.min k.length (n - p)))) w') : o.wp Tryz.prog a w K Q := by
  obtain ⟨w', hrun, h2, h3⟩ := run_copyU w o.type b g n cap l hr p hp u k hs
  unfold Oper.wp execOp
  simp only [ho, resolve, invoke, builtin, Sem.run_bind, Sem.run_pure, Result.andThen_ok, List.map_toArray, List.map_cons, List.map_nil, hd, hx, hrun]
  exact hK w' h2 h3
end Go.Proofs.YtfpmljgmfapoiaaGreat
/-
  Of, Run, Has, Within, Halves of package prefix.
-/
namespace Go.Proofs.YtfpmljgmfapoiaaGreat.Pf
open Go.RowKit
set_option linter.unusedVariables false
set_option linter.unusedSimpArgs false
attribute [local go_sem ↓] Go.wp_at_zero Go.wp_at_succ

theorem of_any (a : Nat) (n : Int) (w : World) (ha : a < 4294967296) :
    Calls Tryz.prog 113 #[.int .u32 a, .int .i64 n] w fun e w' => e = .returned (.tuple #[.agg #[.int .u32 (oA a n : Int), .int .i64 (oN n)], .int .i64 (oE n)]) ∧ Below w.heap.size w w' := by
  by_cases hn : n < 0 ∨ 32 < n
  · rw [show (oA a n : Int) = 0 by simp [oA, hn], show oN n = 0 by simp [oN, hn], show oE n = 20 by simp [oE, hn]]
    go_enter Tryz.func113, Tryz.ntmps113
    go_wp2_with (go_at_call 96; refine (isLength_out n _ hn).mono ?_; rintro e w' ⟨rfl, hw⟩; obtain rfl := hw.symm; clear hw)
    exact bodyPost_ret (v := .tuple #[.agg #[.int .u32 0, .int .i64 0], .int .i64 20]) (by simp [results, Tryz.results113, go_sem]) rfl ⟨rfl, by (repeat (first | assumption | exact Below.refl _ _ | refine Below.drew ?_ | refine bel_drewN ?_ _ | refine Below.setCell ?_ (by first | omega | (simp; done) | (simp; omega)) _ | refine Below.alloc ?_ (by first | omega | (simp; done) | (simp; omega)) _ | refine bel_of ?_ (by assumption)))⟩
  · obtain ⟨m, rfl⟩ : ∃ m : Nat, n = (m : Int) := ⟨n.toNat, by omega⟩
    rw [show oA a m = ct a m by simp [oA, hn], show oN m = m by simp [oN, hn], show oE m = 0 by simp [oE, hn]]
    have hm : m ≤ 32 := by omega
    clear hn
    go_enter Tryz.func113, Tryz.ntmps113
    go_wp2_with (first | (go_at_call 96; refine (isLength_in m _ hm).mono ?_; rintro e w' ⟨rfl, hw⟩; obtain rfl := hw.symm; clear hw) | (go_at_call 114; refine (first_any a m _ ha hm).mono ?_; rintro e w1 ⟨rfl, hb1⟩; obtain ⟨hc1, hf1⟩ := bcell hb1; have hz1 := hb1.size; (try simp at hz1); (try (have hl10 : w.heap.size < w1.heap.size := (by omega))); (try (have hl11 : w.heap.size + 1 < w1.heap.size := (by omega))); (try (have hl12 : w.heap.size + 1 + 1 < w1.heap.size := (by omega))); (try (have hl13 : w.heap.size + 1 + 1 + 1 < w1.heap.size := (by omega)))))
    exact bodyPost_ret (v := .tuple #[.agg #[.int .u32 (ct a m : Int), .int .i64 m], .int .i64 0]) (by simp [results, Tryz.results113, go_sem, hc1, hf1]) rfl ⟨rfl, by (repeat (first | assumption | exact Below.refl _ _ | refine Below.drew ?_ | refine bel_drewN ?_ _ | refine Below.setCell ?_ (by first | omega | (simp; done) | (simp; omega)) _ | refine Below.alloc ?_ (by first | omega | (simp; done) | (simp; omega)) _ | refine bel_of ?_ (by assumption)))⟩
end Go.Proofs.YtfpmljgmfapoiaaGreat.Pf
