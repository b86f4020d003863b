/-
  PkAE: ShA MkB BxA MkU BxU, one behind the other (tools/pack.py).
-/
import Derived.Test.YtabkbfopklpckaaGreatPkAD
import Derived.Test.YtabkbfopklpckaaGreatPkAA
import Derived.Maps.AppendAt
import Derived.OwnWalk
set_option linter.unusedVariables false
set_option linter.unusedSimpArgs false
namespace Go.Proofs.YtabkbfopklpckaaGreat
open Go.RowKit
theorem nrm : (∀ (α : Type) (xs : List α) (i : Nat) (h : i < xs.toArray.size), xs.toArray[i]'h = xs[i]'(by simpa using h)) ∧ (∀ (α : Type) (a : α) (xs : List α) (i : Nat) (h : i + 1 < (a :: xs).length), (a :: xs)[i + 1]'h = xs[i]'(Nat.lt_of_succ_lt_succ h)) ∧ (∀ (α : Type) (a : α) (xs : List α) (h : 0 < (a :: xs).length), (a :: xs)[0]'h = a) ∧ (∀ (α : Type) (l : List α) (i : Nat) (a : α), l.toArray.setIfInBounds i a = (l.set i a).toArray) ∧ (∀ (α : Type) (x y : α) (xs : List α), (x :: xs).set 0 y = y :: xs) ∧ (∀ (α : Type) (x y : α) (xs : List α) (i : Nat), (x :: xs).set (i + 1) y = x :: xs.set i y) ∧ (∀ (a : Act) (d : Tmp) (v : Value), Act.put a (some d) v = { a with tmps := a.tmps.setIfInBounds d v }) ∧ (∀ (a : Act) (v : Value), Act.put a none v = a) :=
 ⟨fun _ _ _ _ => by simp, fun _ _ _ _ _ => by simp, fun _ _ _ _ => by simp, fun _ _ _ _ => by simp, fun _ _ _ _ => rfl, fun _ _ _ _ _ => rfl, fun _ _ _ => rfl, fun _ _ => rfl⟩
theorem wpOne {P : Program} {ops : Array Oper} {Q : Exit → Act → World → Prop} {md : Region.Mode} {S : World → Prop} (i : Nat) {o : Oper} {fuel : Nat} {listed : Array Bool} {a : Act} {w : World} (hr : Region.ready md ops listed = [i]) (hi : ops[i]? = some o) (hw : Region.wanted o (yielded ops a.tmps) = true)
  (h : ∀ K' : Act → World → Prop, (∀ a' w', S w' ∧ wpAnyH P md ops Q S fuel (listed.setIfInBounds i true) a' w' → K' a' w') → o.wp P a w K' Q) : wpAnyH P md ops Q S (fuel + 1) listed a w :=
 wpAnyH_all hr (by simp) fun j hj => by
  rw [List.mem_singleton] at hj
  subst hj
  exact wpOp_of_wp hi hw h
theorem wpTk {P : Program} {ops : Array Oper} {Q : Exit → Act → World → Prop} {md : Region.Mode} {S : World → Prop} {i : Nat} {oi : Oper} {v : Value} {fuel : Nat} {listed : Array Bool} {a : Act} {w : World} (hS : S w)
  (h : wpAnyH P md ops Q S fuel (listed.setIfInBounds i true) (a.put oi.dst v) w) (hi : ops[i]? = some oi := by rfl) (hs : Region.noSelect ops = true := by kernel_rfl) (hf : Region.free md ops listed i = true := by kernel_rfl) (hr : (Region.ready md ops listed).contains i = true := by kernel_rfl)
  (hQ : ∀ c a w, Q (.panic c) (a.put oi.dst v) w → Q (.panic c) a w := by exact fun _ _ _ h => h) (hw : Region.wanted oi (yielded ops a.tmps) = true := by rfl) (hv : ∀ w, S w → (execOp a.eval oi).run P w = .ok (.value v) w := by intro _ _; simp [execOp, go_sem]) : wpAnyH P md ops Q S (fuel + 1) listed a w :=
 wpAnyH_take hi hs hf hr hQ (.inl ⟨hw, hv⟩) hS h
theorem wpLd {P : Program} {ops : Array Oper} {Q : Exit → Act → World → Prop} {md : Region.Mode} {S : World → Prop} {i : Nat} {oi : Oper} {v : Value} {fuel : Nat} {listed : Array Bool} {a : Act} {w : World} (hi : ops[i]? = some oi) (hy : YieldsIf P ops S oi v a) (hS : S w)
  (h : wpAnyH P md ops Q S fuel (listed.setIfInBounds i true) (a.put oi.dst v) w) (hs : Region.noSelect ops = true := by kernel_rfl) (hf : Region.free md ops listed i = true := by kernel_rfl) (hr : (Region.ready md ops listed).contains i = true := by kernel_rfl)
  (hQ : ∀ c a w, Q (.panic c) (a.put oi.dst v) w → Q (.panic c) a w := by exact fun _ _ _ h => h) : wpAnyH P md ops Q S (fuel + 1) listed a w :=
 wpAnyH_take hi hs hf hr hQ hy hS h
theorem wpSt {P : Program} {op : Oper} {a : Act} {w : World} {K : Act → World → Prop} {Q : Exit → Act → World → Prop} (ty : TypeId) (x y : Operand) (ho : op.op = .store ty x y)
  (B o : Nat) (cs new : Array Value) (hx : a.eval x = .pointer (some ⟨B, o, none⟩)) (hy : a.eval y = .agg cs) (t : TypeId) (old : Array Value) (h : w.heap[B]? = some (.cells old t (0, 0)))
  (hk : ∀ w', w'.heap[B]? = some (.cells new t (0, 0)) → Only B w w' → K (a.put op.dst undef) w') (hl : o + cs.size ≤ old.size := by exact Nat.le_of_ble_eq_true rfl) (hn : old.toList.take o ++ cs.toList ++ old.toList.drop (o + cs.size) = new.toList := by rfl)
  (hi : (P.info? ty).map (·.size) = some cs.size := by kernel_rfl) (h1 : cs.toList.all (·.oneCell') = true := by rfl) : op.wp P a w K Q :=
 wp_store_blk ty x y ho B o cs new hx hy t old h hl hn hi h1 hk
theorem mmL : (∀ (a b : Nat) (l : List Nat), (a ∈ b :: l) = (a = b ∨ a ∈ l)) ∧ (∀ a : Nat, (a ∈ ([] : List Nat)) = False) ∧ (∀ p : Prop, (p ∨ False) = p) :=
 ⟨fun _ _ _ => by simp, fun _ => by simp, fun _ => by simp⟩
theorem wpO {P : Program} {ops : Array Oper} {Q : Exit → Act → World → Prop} {md : Region.Mode} {S : World → Prop} (i : Nat) {o : Oper} {fuel : Nat} {listed : Array Bool} {a : Act} {w : World}
  (h : ∀ K' : Act → World → Prop, (∀ a' w', S w' ∧ wpAnyH P md ops Q S fuel (listed.setIfInBounds i true) a' w' → K' a' w') → o.wp P a w K' Q)
  (hr : Region.ready md ops listed = [i] := by kernel_rfl) (hi : ops[i]? = some o := by rfl) (hw : Region.wanted o (yielded ops a.tmps) = true := by rfl) : wpAnyH P md ops Q S (fuel + 1) listed a w := wpOne i hr hi hw h
theorem meet_no (v c x d : Nat) (w : World) (hv : v < 256) (hc : c < 256) (hx : x < 256) (hd : d < 256) (h : (okM v c && okM x d && !apM v c x d) = false) :
  Calls Tryz.prog 102 #[.agg #[.int .u8 v, .int .u8 c], .agg #[.int .u8 x, .int .u8 d]] w fun e w' => e = .returned (.tuple #[.agg #[.int .u8 0, .int .u8 0], .bool false]) ∧ Below w.heap.size w w' := by
 have hcal := fun W => mayBe_any v c x d W hv hc hx hd
 have hcal2 := fun W => apartM v c x d W hv hc hx hd
 cases ho : (okM v c && okM x d)
 ·rw [ho] at hcal
  go_enter Tryz.func102, Tryz.ntmps102
  go_wp2_with (fail)
  refine (hcal _).mono ?_
  rintro e w1 ⟨rfl, hb1⟩
  have c0 : w1.cell? ⟨w.heap.size + 1 + 1, 0, none⟩ = some (.int .u8 0) := cell_on1 hb1 (by simp [go_sem])
  have c1 : w1.cell? ⟨w.heap.size + 1 + 1, 1, none⟩ = some (.int .u8 0) := cell_on1 hb1 (by simp [go_sem])
  have f0 : w1.frozen? ⟨w.heap.size + 1 + 1, 0, none⟩ = false := by rw [hb1.frozen (by simp)]; simp [go_sem]
  have f1 : w1.frozen? ⟨w.heap.size + 1 + 1, 1, none⟩ = false := by rw [hb1.frozen (by simp)]; simp [go_sem]
  have hbw : Hid (Below w.heap.size w w1) := by show Below _ _ _; (repeat (first | assumption | exact Below.refl _ _ | refine Below.drew ?_ | refine bel_drewN ?_ _ | refine Below.setCell ?_ (by first | omega | (simp; done) | (simp; omega)) _ | refine Below.alloc ?_ (by first | omega | (simp; done) | (simp; omega)) _ | refine bel_of ?_ (by assumption)))
  clear hb1
  go_wp2
  exact bodyPost_ret (v := .tuple #[.agg #[.int .u8 0, .int .u8 0], .bool false]) (by simp [results, Tryz.results102, go_sem, *]) rfl ⟨rfl, by have := hbw.out; (repeat (first | assumption | exact Below.refl _ _ | refine Below.drew ?_ | refine bel_drewN ?_ _ | refine Below.setCell ?_ (by first | omega | (simp; done) | (simp; omega)) _ | refine Below.alloc ?_ (by first | omega | (simp; done) | (simp; omega)) _ | refine bel_of ?_ (by assumption)))⟩
 ·rw [ho] at hcal h
  rw [Bool.true_and] at h
  rw [show apM v c x d = true by simpa using h] at hcal2
  go_enter Tryz.func102, Tryz.ntmps102
  go_wp2_with (fail)
  refine (hcal _).mono ?_
  rintro e w1 ⟨rfl, hb1⟩
  have c0 : w1.cell? ⟨w.heap.size + 1 + 1, 0, none⟩ = some (.int .u8 0) := cell_on1 hb1 (by simp [go_sem])
  have c1 : w1.cell? ⟨w.heap.size + 1 + 1, 1, none⟩ = some (.int .u8 0) := cell_on1 hb1 (by simp [go_sem])
  have f0 : w1.frozen? ⟨w.heap.size + 1 + 1, 0, none⟩ = false := by rw [hb1.frozen (by simp)]; simp [go_sem]
  have f1 : w1.frozen? ⟨w.heap.size + 1 + 1, 1, none⟩ = false := by rw [hb1.frozen (by simp)]; simp [go_sem]
  have a0 : w1.cell? ⟨w.heap.size, 0, none⟩ = some (.int .u8 v) := cell_on1 hb1 (by simp [go_sem])
  have a1 : w1.cell? ⟨w.heap.size, 1, none⟩ = some (.int .u8 c) := cell_on1 hb1 (by simp [go_sem])
  have b0 : w1.cell? ⟨w.heap.size + 1, 0, none⟩ = some (.int .u8 x) := cell_on1 hb1 (by simp [go_sem])
  have b1 : w1.cell? ⟨w.heap.size + 1, 1, none⟩ = some (.int .u8 d) := cell_on1 hb1 (by simp [go_sem])
  have hbw : Hid (Below w.heap.size w w1) := by show Below _ _ _; (repeat (first | assumption | exact Below.refl _ _ | refine Below.drew ?_ | refine bel_drewN ?_ _ | refine Below.setCell ?_ (by first | omega | (simp; done) | (simp; omega)) _ | refine Below.alloc ?_ (by first | omega | (simp; done) | (simp; omega)) _ | refine bel_of ?_ (by assumption)))
  have hz := hb1.size
  simp at hz
  clear hb1
  go_wp2_with (fail)
  refine (hcal2 _).mono ?_
  rintro e w2 ⟨rfl, hb2⟩
  have C0 : w2.cell? ⟨w.heap.size + 1 + 1, 0, none⟩ = some (.int .u8 0) := cell_on1 hb2 c0
  have C1 : w2.cell? ⟨w.heap.size + 1 + 1, 1, none⟩ = some (.int .u8 0) := cell_on1 hb2 c1
  have F0 : w2.frozen? ⟨w.heap.size + 1 + 1, 0, none⟩ = false := by rw [hb2.frozen (by show w.heap.size + 1 + 1 < _; omega)]; exact f0
  have F1 : w2.frozen? ⟨w.heap.size + 1 + 1, 1, none⟩ = false := by rw [hb2.frozen (by show w.heap.size + 1 + 1 < _; omega)]; exact f1
  have hbw2 : Hid (Below w.heap.size w w2) := hbw.out.trans (hb2.mono (by omega))
  clear hb2 c0 c1 f0 f1 a0 a1 b0 b1
  go_wp2
  exact bodyPost_ret (v := .tuple #[.agg #[.int .u8 0, .int .u8 0], .bool false]) (by simp [results, Tryz.results102, go_sem, *]) rfl ⟨rfl, by have := hbw2.out; (repeat (first | assumption | exact Below.refl _ _ | refine Below.drew ?_ | refine bel_drewN ?_ _ | refine Below.setCell ?_ (by first | omega | (simp; done) | (simp; omega)) _ | refine Below.alloc ?_ (by first | omega | (simp; done) | (simp; omega)) _ | refine bel_of ?_ (by assumption)))⟩
theorem meet_yes (v c x d : Nat) (w : World) (hv : v < 256) (hc : c < 256) (hx : x < 256) (hd : d < 256) (h : (okM v c && okM x d && !apM v c x d) = true) :
  Calls Tryz.prog 102 #[.agg #[.int .u8 v, .int .u8 c], .agg #[.int .u8 x, .int .u8 d]] w fun e w' => e = .returned (.tuple #[.agg #[.int .u8 (v ||| x : Nat), .int .u8 (c ||| d : Nat)], .bool true]) ∧ Below w.heap.size w w' := by
 have hcal := fun W => mayBe_any v c x d W hv hc hx hd
 have hcal2 := fun W => apartM v c x d W hv hc hx hd
 rw [Bool.and_eq_true] at h
 rw [h.1] at hcal
 rw [show apM v c x d = false by simpa using h.2] at hcal2
 rw [← u8_or_nat v x hv hx, ← u8_or_nat c d hc hd]
 go_enter Tryz.func102, Tryz.ntmps102
 go_wp2_with (fail)
 refine (hcal _).mono ?_
 rintro e w1 ⟨rfl, hb1⟩
 have c0 : w1.cell? ⟨w.heap.size + 1 + 1, 0, none⟩ = some (.int .u8 0) := cell_on1 hb1 (by simp [go_sem])
 have c1 : w1.cell? ⟨w.heap.size + 1 + 1, 1, none⟩ = some (.int .u8 0) := cell_on1 hb1 (by simp [go_sem])
 have f0 : w1.frozen? ⟨w.heap.size + 1 + 1, 0, none⟩ = false := by rw [hb1.frozen (by simp)]; simp [go_sem]
 have f1 : w1.frozen? ⟨w.heap.size + 1 + 1, 1, none⟩ = false := by rw [hb1.frozen (by simp)]; simp [go_sem]
 have a0 : w1.cell? ⟨w.heap.size, 0, none⟩ = some (.int .u8 v) := cell_on1 hb1 (by simp [go_sem])
 have a1 : w1.cell? ⟨w.heap.size, 1, none⟩ = some (.int .u8 c) := cell_on1 hb1 (by simp [go_sem])
 have b0 : w1.cell? ⟨w.heap.size + 1, 0, none⟩ = some (.int .u8 x) := cell_on1 hb1 (by simp [go_sem])
 have b1 : w1.cell? ⟨w.heap.size + 1, 1, none⟩ = some (.int .u8 d) := cell_on1 hb1 (by simp [go_sem])
 have hbw : Hid (Below w.heap.size w w1) := by show Below _ _ _; (repeat (first | assumption | exact Below.refl _ _ | refine Below.drew ?_ | refine bel_drewN ?_ _ | refine Below.setCell ?_ (by first | omega | (simp; done) | (simp; omega)) _ | refine Below.alloc ?_ (by first | omega | (simp; done) | (simp; omega)) _ | refine bel_of ?_ (by assumption)))
 have hz := hb1.size
 simp at hz
 clear hb1
 go_wp2_with (fail)
 refine (hcal2 _).mono ?_
 rintro e w2 ⟨rfl, hb2⟩
 have C0 : w2.cell? ⟨w.heap.size + 1 + 1, 0, none⟩ = some (.int .u8 0) := cell_on1 hb2 c0
 have C1 : w2.cell? ⟨w.heap.size + 1 + 1, 1, none⟩ = some (.int .u8 0) := cell_on1 hb2 c1
 have F0 : w2.frozen? ⟨w.heap.size + 1 + 1, 0, none⟩ = false := by rw [hb2.frozen (by show w.heap.size + 1 + 1 < _; omega)]; exact f0
 have F1 : w2.frozen? ⟨w.heap.size + 1 + 1, 1, none⟩ = false := by rw [hb2.frozen (by show w.heap.size + 1 + 1 < _; omega)]; exact f1
 have A0 := cell_on1 hb2 a0
 have A1 := cell_on1 hb2 a1
 have B0 := cell_on1 hb2 b0
 have B1 := cell_on1 hb2 b1
 have hbw2 : Hid (Below w.heap.size w w2) := hbw.out.trans (hb2.mono (by omega))
 clear hb2 c0 c1 f0 f1 a0 a1 b0 b1
 go_wp2
 exact bodyPost_ret (v := .tuple #[.agg #[.int .u8 (bits .or .u8 v x), .int .u8 (bits .or .u8 c d)], .bool true]) (by simp [results, Tryz.results102, go_sem, *]) rfl ⟨rfl, by have := hbw2.out; (repeat (first | assumption | exact Below.refl _ _ | refine Below.drew ?_ | refine bel_drewN ?_ _ | refine Below.setCell ?_ (by first | omega | (simp; done) | (simp; omega)) _ | refine Below.alloc ?_ (by first | omega | (simp; done) | (simp; omega)) _ | refine bel_of ?_ (by assumption)))⟩
end Go.Proofs.YtabkbfopklpckaaGreat

namespace Go.Proofs.YtabkbfopklpckaaGreat.Xb
open Go.RowKit
def chkX (X : Bx) : Int := if okI X.a && okI X.b then (if okI X.c && okI X.d then (if okM X.m.1 X.m.2 then 0 else 40) else 30) else 70
theorem chkX_ok {X : Bx} : chkX X = 0 ↔ okX X = true := by
 unfold chkX okX
 cases okI X.a <;> cases okI X.b <;> cases okI X.c <;> cases okI X.d <;> cases okM X.m.1 X.m.2 <;> simp
end Go.Proofs.YtabkbfopklpckaaGreat.Xb
namespace Go.Proofs.YtabkbfopklpckaaGreat
open Go.RowKit
def flat : List (Nat × Nat) → List Value
 | [] => []
 | p :: l => .int .u8 p.1 :: .int .u8 p.2 :: flat l
theorem flat_at : ∀ (l : List (Nat × Nat)) (i : Nat) (h : i < l.length), (flat l)[i * 2]? = some (.int .u8 ((l[i]'h).1 : Int)) ∧ (flat l)[i * 2 + 1]? = some (.int .u8 ((l[i]'h).2 : Int))
 | p :: l, 0, _ => ⟨rfl, rfl⟩
 | p :: l, i + 1, h => by
  have := flat_at l i (by simpa using h)
  rw [show (i + 1) * 2 = i * 2 + 2 by omega]
  exact this
def Row (w : World) (base : Nat) (v : Value) (l : List (Nat × Nat)) : Prop := w.ownsRow base 62 2 v l.length (flat l)
theorem Row.base {w : World} {b b' : Nat} {v : Value} {l : List (Nat × Nat)} (h : Row w b v l) (hb : b' ≤ b) : Row w b' v l := by
 refine ⟨h.1, ?_⟩
 rcases h.2 with h2 | ⟨g, cap, cur, hv, hg, r⟩
 ·exact .inl h2
 ·exact .inr ⟨g, cap, cur, hv, by omega, r⟩
theorem Row.on {w w1 : World} {b : Nat} {v : Value} {l : List (Nat × Nat)} (h : Row w b v l) (hb : Below w.heap.size w w1) : Row w1 b v l := by
 refine ⟨h.1, ?_⟩
 rcases h.2 with h2 | ⟨g, cap, cur, hv, hg, hh, r⟩
 ·exact .inl h2
 ·exact .inr ⟨g, cap, cur, hv, hg, by rw [hb.block g (Array.getElem?_eq_some_iff.1 hh).1]; exact hh, r⟩
theorem Row.alloc {w : World} {b : Nat} {v : Value} {l : List (Nat × Nat)} (h : Row w b v l) (o : Obj) : Row (w.alloc o) b v l := World.ownsRow.alloc h o
theorem Row.nil (w : World) (b : Nat) : Row w b (.slice none 0 0) [] := World.ownsRow_nil w b _ _
theorem Row.one (w : World) (b a n : Nat) (hb : b ≤ w.heap.size) : Row (w.alloc (.cells #[.int .u8 a, .int .u8 n] 62)) b (.slice (some ⟨w.heap.size, 0, none⟩) 1 1) [(a, n)] :=
 World.ownsRow_lit w #[.int .u8 a, .int .u8 n] 1 hb (by decide) rfl
theorem Row.one2 (w : World) (b : Nat) {x y : Int} (a n : Nat) {B : Nat} (hB : B = w.heap.size) (hx : x = (a : Int)) (hy : y = (n : Int)) (hb : b ≤ w.heap.size) : Row (w.alloc (.cells #[.int .u8 x, .int .u8 y] 62)) b (.slice (some ⟨B, 0, none⟩) 1 1) [(a, n)] := by
 subst hx hy hB; exact Row.one w b a n hb
theorem Row.lt {w : World} {b : Nat} {v : Value} {l : List (Nat × Nat)} (h : Row w b v l) : ∀ k, v.ownBlock = some k → b ≤ k ∧ k < w.heap.size := World.ownsRow.lt h
theorem Row.form {w : World} {b : Nat} {v : Value} {l : List (Nat × Nat)} (h : Row w b v l) :
  ∃ (ad : Option Addr) (cap : Nat), v = .slice ad l.length cap ∧ l.length ≤ cap ∧ (0 < l.length → ∃ g, ad = some ⟨g, 0, none⟩ ∧ b ≤ g ∧ g < w.heap.size ∧ ∀ k (hk : k < l.length), w.cell? ⟨g, k * 2, none⟩ = some (.int .u8 ((l[k]'hk).1 : Int)) ∧ w.cell? ⟨g, k * 2 + 1, none⟩ = some (.int .u8 ((l[k]'hk).2 : Int))) := by
 rcases h.2 with ⟨hv, hn⟩ | ⟨g, cap, cur, hv, hb, hg, hcap, r⟩
 ·exact ⟨none, 0, by rw [hv, hn], by omega, fun h0 => by omega⟩
 ·subst hv
  refine ⟨_, cap, rfl, hcap, fun _ => ⟨g, rfl, hb, (Array.getElem?_eq_some_iff.1 hg).1, fun k hk => ?_⟩⟩
  have h' : w.ownsRow b 62 2 (.slice (some ⟨g, 0, none⟩) l.length cap) l.length (flat l) := h
  have hf := flat_at l k hk
  exact ⟨by rw [h'.cellAt (k * 2) (by omega), hf.1], by rw [h'.cellAt (k * 2 + 1) (by omega), hf.2]⟩
theorem Row.frozen {w : World} {b g cap n : Nat} {l : List (Nat × Nat)} (h : Row w b (.slice (some ⟨g, 0, none⟩) n cap) l) (j : Nat) : w.frozen? ⟨g, j, none⟩ = false := by
 rcases h.2 with ⟨hv, _⟩ | ⟨g', cap', cur, hv, hb, hg, r⟩
 ·cases hv
 ·cases hv; simp [World.frozen?, hg]
end Go.Proofs.YtabkbfopklpckaaGreat
namespace Go.Proofs.YtabkbfopklpckaaGreat.Xb
open Go.RowKit
def encR (p : Nat × Nat) : List Value := [.int .u32 p.1, .int .u32 p.2]
def flatR : List (Nat × Nat) → List Value
 | [] => []
 | p :: l => encR p ++ flatR l
theorem flatR_at : ∀ (l : List (Nat × Nat)) (i : Nat) (h : i < l.length) (j : Nat) (hj : j < 2), (flatR l)[i * 2 + j]? = (encR (l[i]'h))[j]?
 | p :: l, 0, _, j, hj => by
  rw [Nat.zero_mul, Nat.zero_add]
  exact List.getElem?_append_left (by simp [encR]; omega)
 | p :: l, i + 1, h, j, hj => by
  have := flatR_at l i (by simpa using h) j hj
  show (encR p ++ flatR l)[(i + 1) * 2 + j]? = _
  rw [List.getElem?_append_right (by simp [encR]; omega), show (i + 1) * 2 + j - (encR p).length = i * 2 + j by simp [encR]; omega]
  exact this
def RowR (w : World) (base : Nat) (v : Value) (l : List (Nat × Nat)) : Prop := w.ownsRow base 83 2 v l.length (flatR l)
theorem RowR.base {w : World} {b b' : Nat} {v : Value} {l : List (Nat × Nat)} (h : RowR w b v l) (hb : b' ≤ b) : RowR w b' v l := by
 refine ⟨h.1, ?_⟩
 rcases h.2 with h2 | ⟨g, cap, cur, hv, hg, r⟩
 ·exact .inl h2
 ·exact .inr ⟨g, cap, cur, hv, by omega, r⟩
theorem RowR.on {w w1 : World} {b : Nat} {v : Value} {l : List (Nat × Nat)} (h : RowR w b v l) (hb : Below w.heap.size w w1) : RowR w1 b v l := by
 refine ⟨h.1, ?_⟩
 rcases h.2 with h2 | ⟨g, cap, cur, hv, hg, hh, r⟩
 ·exact .inl h2
 ·exact .inr ⟨g, cap, cur, hv, hg, by rw [hb.block g (Array.getElem?_eq_some_iff.1 hh).1]; exact hh, r⟩
theorem RowR.alloc {w : World} {b : Nat} {v : Value} {l : List (Nat × Nat)} (h : RowR w b v l) (o : Obj) : RowR (w.alloc o) b v l := World.ownsRow.alloc h o
theorem RowR.drew {w : World} {b : Nat} {v : Value} {l : List (Nat × Nat)} (h : RowR w b v l) : RowR w.drew b v l := h
theorem RowR.nil (w : World) (b : Nat) : RowR w b (.slice none 0 0) [] := World.ownsRow_nil w b _ _
theorem RowR.one (w : World) (b : Nat) (p : Nat × Nat) (hb : b ≤ w.heap.size) : RowR (w.alloc (.cells #[.int .u32 p.1, .int .u32 p.2] 83)) b (.slice (some ⟨w.heap.size, 0, none⟩) 1 1) [p] :=
 World.ownsRow_lit w #[.int .u32 p.1, .int .u32 p.2] 1 hb (by simp [maxLen]) rfl
theorem RowR.lt {w : World} {b : Nat} {v : Value} {l : List (Nat × Nat)} (h : RowR w b v l) : ∀ k, v.ownBlock = some k → b ≤ k ∧ k < w.heap.size := World.ownsRow.lt h
theorem RowR.put {w : World} {b : Nat} {v : Value} {l : List (Nat × Nat)} (h : RowR w b v l) {g i : Nat} (hg : some g ≠ v.ownBlock) (u : Value) : RowR (w.setCell ⟨g, i, none⟩ u) b v l := by
 refine ⟨h.1, ?_⟩
 rcases h.2 with h2 | ⟨g', cap, cur, hv, hb, hh, r⟩
 ·exact .inl h2
 ·exact .inr ⟨g', cap, cur, hv, hb, by rw [Below.heap_setCell _ _ _ _ (by intro e; apply hg; rw [hv]; simp [Value.ownBlock, e])]; exact hh, r⟩
theorem RowR.form {w : World} {b : Nat} {v : Value} {l : List (Nat × Nat)} (h : RowR w b v l) :
  ∃ (ad : Option Addr) (cap : Nat), v = .slice ad l.length cap ∧ l.length ≤ cap ∧ (0 < l.length → ∃ g, ad = some ⟨g, 0, none⟩ ∧ b ≤ g ∧ g < w.heap.size ∧ ∀ k (hk : k < l.length) j, j < 2 → w.cell? ⟨g, k * 2 + j, none⟩ = (encR (l[k]'hk))[j]?) := by
 rcases h.2 with ⟨hv, hn⟩ | ⟨g, cap, cur, hv, hb, hg, hcap, r⟩
 ·exact ⟨none, 0, by rw [hv, hn], by omega, fun h0 => by omega⟩
 ·subst hv
  refine ⟨_, cap, rfl, hcap, fun _ => ⟨g, rfl, hb, (Array.getElem?_eq_some_iff.1 hg).1, fun k hk j hj => ?_⟩⟩
  have h' : w.ownsRow b 83 2 (.slice (some ⟨g, 0, none⟩) l.length cap) l.length (flatR l) := h
  rw [h'.cellAt (k * 2 + j) (by omega), flatR_at l k hk j hj]
theorem RowR.frozen {w : World} {b g cap n : Nat} {l : List (Nat × Nat)} (h : RowR w b (.slice (some ⟨g, 0, none⟩) n cap) l) (j : Nat) : w.frozen? ⟨g, j, none⟩ = false := by
 rcases h.2 with ⟨hv, _⟩ | ⟨g', cap', cur, hv, hb, hg, r⟩
 ·cases hv
 ·cases hv; simp [World.frozen?, hg]
def encS (p : Nat × Nat) : List Value := [.int .u16 p.1, .int .u16 p.2]
def flatS : List (Nat × Nat) → List Value
 | [] => []
 | p :: l => encS p ++ flatS l
theorem flatS_length (l : List (Nat × Nat)) : (flatS l).length = l.length * 2 := by
 induction l with
 | nil => rfl
 | cons p l ih => simp only [flatS, encS, List.length_append, List.length_cons, List.length_nil, ih]; omega
theorem flatS_append (l k : List (Nat × Nat)) : flatS (l ++ k) = flatS l ++ flatS k := by
 induction l with
 | nil => rfl
 | cons p l ih => simp only [flatS, List.cons_append, ih, List.append_assoc]
theorem flatS_one (l : List (Nat × Nat)) : ∀ u ∈ flatS l, u.oneCell' = true := by
 induction l with
 | nil => intro u hu; cases hu
 | cons p l ih =>
  intro u hu
  simp only [flatS, List.mem_append] at hu
  rcases hu with hu | hu
  ·simp only [encS, List.mem_cons, List.not_mem_nil, or_false] at hu
   rcases hu with rfl | rfl <;> rfl
  ·exact ih u hu
theorem flatS_at : ∀ (l : List (Nat × Nat)) (i : Nat) (h : i < l.length) (j : Nat) (hj : j < 2), (flatS l)[i * 2 + j]? = (encS (l[i]'h))[j]?
 | p :: l, 0, _, j, hj => by
  rw [Nat.zero_mul, Nat.zero_add]
  exact List.getElem?_append_left (by simp [encS]; omega)
 | p :: l, i + 1, h, j, hj => by
  have := flatS_at l i (by simpa using h) j hj
  show (encS p ++ flatS l)[(i + 1) * 2 + j]? = _
  rw [List.getElem?_append_right (by simp [encS]; omega), show (i + 1) * 2 + j - (encS p).length = i * 2 + j by simp [encS]; omega]
  exact this
theorem infoS : (Tryz.prog.info? 60).map (fun i => (i.zero, i.size, i.bytes)) = some (some (.agg #[.int .u16 0, .int .u16 0]), 2, 4) := by kernel_rfl
def RowS (w : World) (base : Nat) (v : Value) (l : List (Nat × Nat)) : Prop := w.ownsRow base 60 2 v l.length (flatS l)
theorem RowS.base {w : World} {b b' : Nat} {v : Value} {l : List (Nat × Nat)} (h : RowS w b v l) (hb : b' ≤ b) : RowS w b' v l := by
 refine ⟨h.1, ?_⟩
 rcases h.2 with h2 | ⟨g, cap, cur, hv, hg, r⟩
 ·exact .inl h2
 ·exact .inr ⟨g, cap, cur, hv, by omega, r⟩
theorem RowS.on {w w1 : World} {b : Nat} {v : Value} {l : List (Nat × Nat)} (h : RowS w b v l) (hb : Below w.heap.size w w1) : RowS w1 b v l := by
 refine ⟨h.1, ?_⟩
 rcases h.2 with h2 | ⟨g, cap, cur, hv, hg, hh, r⟩
 ·exact .inl h2
 ·exact .inr ⟨g, cap, cur, hv, hg, by rw [hb.block g (Array.getElem?_eq_some_iff.1 hh).1]; exact hh, r⟩
theorem RowS.alloc {w : World} {b : Nat} {v : Value} {l : List (Nat × Nat)} (h : RowS w b v l) (o : Obj) : RowS (w.alloc o) b v l := World.ownsRow.alloc h o
theorem RowS.drew {w : World} {b : Nat} {v : Value} {l : List (Nat × Nat)} (h : RowS w b v l) : RowS w.drew b v l := h
theorem RowS.nil (w : World) (b : Nat) : RowS w b (.slice none 0 0) [] := World.ownsRow_nil w b _ _
theorem RowS.one (w : World) (b : Nat) (p : Nat × Nat) (hb : b ≤ w.heap.size) : RowS (w.alloc (.cells #[.int .u16 p.1, .int .u16 p.2] 60)) b (.slice (some ⟨w.heap.size, 0, none⟩) 1 1) [p] :=
 World.ownsRow_lit w #[.int .u16 p.1, .int .u16 p.2] 1 hb (by simp [maxLen]) rfl
theorem RowS.lt {w : World} {b : Nat} {v : Value} {l : List (Nat × Nat)} (h : RowS w b v l) : ∀ k, v.ownBlock = some k → b ≤ k ∧ k < w.heap.size := World.ownsRow.lt h
theorem RowS.put {w : World} {b : Nat} {v : Value} {l : List (Nat × Nat)} (h : RowS w b v l) {g i : Nat} (hg : some g ≠ v.ownBlock) (u : Value) : RowS (w.setCell ⟨g, i, none⟩ u) b v l := by
 refine ⟨h.1, ?_⟩
 rcases h.2 with h2 | ⟨g', cap, cur, hv, hb, hh, r⟩
 ·exact .inl h2
 ·exact .inr ⟨g', cap, cur, hv, hb, by rw [Below.heap_setCell _ _ _ _ (by intro e; apply hg; rw [hv]; simp [Value.ownBlock, e])]; exact hh, r⟩
theorem run_appendS (w : World) (ty : TypeId) (b : Nat) (v : Value) (l : List (Nat × Nat)) (h : RowS w b v l) (c : Nat) (u : Value) (k : List (Nat × Nat)) (hk : RowS w c u k)
  (hb : b ≤ w.heap.size) (hsz : l.length + k.length ≤ 4294967296) :
  ∃ v' w', (Builtin.append_ #[222, 222] ty #[v, u]).run Tryz.prog w = .ok v' w' ∧ RowS w' b v' (l ++ k) ∧ w.grownBy w' v.ownBlock := by
 obtain ⟨i0, hi, hz0, hz1, hz2⟩ := info_parts infoS
 have hmx : l.length + k.length ≤ maxLen := by unfold maxLen; omega
 rcases hk.2 with ⟨rfl, hk0⟩ | ⟨g, cap, cur, rfl, hg, hh, hnc, hcm, hcs, htk⟩
 ·have hr := run_append_owned_none (P := Tryz.prog) (w := w) b 222 ty 60 i0 2 Tryz.underlying222 hi v l.length (flatS l) h
  refine ⟨v, w, hr, ?_, ⟨rfl, rfl, rfl, Nat.le_refl _, fun _ _ _ => rfl⟩⟩
  rw [List.eq_nil_of_length_eq_zero hk0, List.append_nil]
  exact h
 ·have hn := World.ownsRow.cells hk (g := g) rfl
  obtain ⟨v', w', hr, ho, hgr, _⟩ := run_append_own (P := Tryz.prog) w b 222 ty 60 i0 (.agg #[.int .u16 0, .int .u16 0]) 2 4 Tryz.underlying222 hi hz0 hz1 hz2 rfl (by decide) v l.length (flatS l) h ⟨g, 0, none⟩ k.length cap (flatS k) (flatS_length k) hn (flatS_one k) hmx (by omega) hb
  refine ⟨v', w', hr, ?_, hgr⟩
  unfold RowS
  rw [List.length_append, flatS_append]
  exact ho
theorem wp_appendS {o : Oper} {a : Act} {w : World} {K : Act → World → Prop} {Q : Exit → Act → World → Prop} (s x : Operand)
  (ho : o.op = .call { callee := .builtin .append, args := #[s, x], argTypes := #[222, 222] })
  (b : Nat) (v : Value) (l : List (Nat × Nat)) (hs : a.eval s = v) (h : RowS w b v l) (c : Nat) (u : Value) (k : List (Nat × Nat)) (hx : a.eval x = u) (hk : RowS w c u k)
  (hb : b ≤ w.heap.size) (hsz : l.length + k.length ≤ 4294967296)
  (hK : ∀ v' w', RowS w' b v' (l ++ k) → w.grownBy w' v.ownBlock → K (a.put o.dst v') w') : o.wp Tryz.prog a w K Q := by
 obtain ⟨v', w', hr, h2, h3⟩ := run_appendS w o.type b v l h c u k hk hb hsz
 unfold Oper.wp execOp
 simp only [ho, resolve, invoke, builtin, Sem.run_bind, Sem.run_pure, Result.andThen_ok, List.map_toArray, List.map_cons, List.map_nil, hs, hx, hr]
 exact hK v' w' h2 h3
theorem wpList_appendS {ops : Array Oper} {rest : List Oper} {o : Oper} {a : Act} {w : World} {Q : Exit → Act → World → Prop} (hgd : o.guard = none) (s x : Operand)
  (ho : o.op = .call { callee := .builtin .append, args := #[s, x], argTypes := #[222, 222] })
  (b : Nat) (v : Value) (l : List (Nat × Nat)) (hs : a.eval s = v) (h : RowS w b v l) (c : Nat) (u : Value) (k : List (Nat × Nat)) (hx : a.eval x = u) (hk : RowS w c u k)
  (hb : b ≤ w.heap.size) (hsz : l.length + k.length ≤ 4294967296)
  (hK : ∀ v' w', RowS w' b v' (l ++ k) → w.grownBy w' v.ownBlock → wpList Tryz.prog ops Q rest (a.put o.dst v') w') : wpList Tryz.prog ops Q (o :: rest) a w :=
 wpList_plain hgd fun _ hK' => wp_appendS s x ho b v l hs h c u k hx hk hb hsz fun v' w' h2 h3 => hK' _ _ (hK v' w' h2 h3)
theorem bel_grownS {B : Nat} {a w w' : World} {b : Nat} {v : Value} {l : List (Nat × Nat)} (h : Below B a w) (hr : RowS w b v l) (hg : w.grownBy w' v.ownBlock) (hB : B ≤ w.heap.size) (hb : B ≤ b) : Below B a w' :=
 h.grown hg hB fun k hk => Nat.le_trans hb (hr.lt k hk).1
theorem RowS.form {w : World} {b : Nat} {v : Value} {l : List (Nat × Nat)} (h : RowS w b v l) :
  ∃ (ad : Option Addr) (cap : Nat), v = .slice ad l.length cap ∧ l.length ≤ cap ∧ (0 < l.length → ∃ g, ad = some ⟨g, 0, none⟩ ∧ b ≤ g ∧ g < w.heap.size ∧ ∀ k (hk : k < l.length) j, j < 2 → w.cell? ⟨g, k * 2 + j, none⟩ = (encS (l[k]'hk))[j]?) := by
 rcases h.2 with ⟨hv, hn⟩ | ⟨g, cap, cur, hv, hb, hg, hcap, r⟩
 ·exact ⟨none, 0, by rw [hv, hn], by omega, fun h0 => by omega⟩
 ·subst hv
  refine ⟨_, cap, rfl, hcap, fun _ => ⟨g, rfl, hb, (Array.getElem?_eq_some_iff.1 hg).1, fun k hk j hj => ?_⟩⟩
  have h' : w.ownsRow b 60 2 (.slice (some ⟨g, 0, none⟩) l.length cap) l.length (flatS l) := h
  rw [h'.cellAt (k * 2 + j) (by omega), flatS_at l k hk j hj]
theorem RowS.frozen {w : World} {b g cap n : Nat} {l : List (Nat × Nat)} (h : RowS w b (.slice (some ⟨g, 0, none⟩) n cap) l) (j : Nat) : w.frozen? ⟨g, j, none⟩ = false := by
 rcases h.2 with ⟨hv, _⟩ | ⟨g', cap', cur, hv, hb, hg, r⟩
 ·cases hv
 ·cases hv; simp [World.frozen?, hg]
def encX (p : Bx) : List Value := [.int .u32 p.a.1, .int .u32 p.a.2, .int .u32 p.b.1, .int .u32 p.b.2, .int .u16 p.c.1, .int .u16 p.c.2, .int .u16 p.d.1, .int .u16 p.d.2, .int .u8 p.m.1, .int .u8 p.m.2]
def flatX : List (Bx) → List Value
 | [] => []
 | p :: l => encX p ++ flatX l
theorem flatX_length (l : List (Bx)) : (flatX l).length = l.length * 10 := by
 induction l with
 | nil => rfl
 | cons p l ih => simp only [flatX, encX, List.length_append, List.length_cons, List.length_nil, ih]; omega
theorem flatX_append (l k : List (Bx)) : flatX (l ++ k) = flatX l ++ flatX k := by
 induction l with
 | nil => rfl
 | cons p l ih => simp only [flatX, List.cons_append, ih, List.append_assoc]
theorem flatX_one (l : List (Bx)) : ∀ u ∈ flatX l, u.oneCell' = true := by
 induction l with
 | nil => intro u hu; cases hu
 | cons p l ih =>
  intro u hu
  simp only [flatX, List.mem_append] at hu
  rcases hu with hu | hu
  ·simp only [encX, List.mem_cons, List.not_mem_nil, or_false] at hu
   rcases hu with rfl | rfl | rfl | rfl | rfl | rfl | rfl | rfl | rfl | rfl <;> rfl
  ·exact ih u hu
theorem flatX_at : ∀ (l : List (Bx)) (i : Nat) (h : i < l.length) (j : Nat) (hj : j < 10), (flatX l)[i * 10 + j]? = (encX (l[i]'h))[j]?
 | p :: l, 0, _, j, hj => by
  rw [Nat.zero_mul, Nat.zero_add]
  exact List.getElem?_append_left (by simp [encX]; omega)
 | p :: l, i + 1, h, j, hj => by
  have := flatX_at l i (by simpa using h) j hj
  show (encX p ++ flatX l)[(i + 1) * 10 + j]? = _
  rw [List.getElem?_append_right (by simp [encX]; omega), show (i + 1) * 10 + j - (encX p).length = i * 10 + j by simp [encX]; omega]
  exact this
theorem infoX : (Tryz.prog.info? 85).map (fun i => (i.zero, i.size, i.bytes)) = some (some (.agg #[.int .u32 0, .int .u32 0, .int .u32 0, .int .u32 0, .int .u16 0, .int .u16 0, .int .u16 0, .int .u16 0, .int .u8 0, .int .u8 0]), 10, 28) := by kernel_rfl
def RowX (w : World) (base : Nat) (v : Value) (l : List (Bx)) : Prop := w.ownsRow base 85 10 v l.length (flatX l)
theorem RowX.base {w : World} {b b' : Nat} {v : Value} {l : List (Bx)} (h : RowX w b v l) (hb : b' ≤ b) : RowX w b' v l := by
 refine ⟨h.1, ?_⟩
 rcases h.2 with h2 | ⟨g, cap, cur, hv, hg, r⟩
 ·exact .inl h2
 ·exact .inr ⟨g, cap, cur, hv, by omega, r⟩
theorem RowX.on {w w1 : World} {b : Nat} {v : Value} {l : List (Bx)} (h : RowX w b v l) (hb : Below w.heap.size w w1) : RowX w1 b v l := by
 refine ⟨h.1, ?_⟩
 rcases h.2 with h2 | ⟨g, cap, cur, hv, hg, hh, r⟩
 ·exact .inl h2
 ·exact .inr ⟨g, cap, cur, hv, hg, by rw [hb.block g (Array.getElem?_eq_some_iff.1 hh).1]; exact hh, r⟩
theorem RowX.alloc {w : World} {b : Nat} {v : Value} {l : List (Bx)} (h : RowX w b v l) (o : Obj) : RowX (w.alloc o) b v l := World.ownsRow.alloc h o
theorem RowX.drew {w : World} {b : Nat} {v : Value} {l : List (Bx)} (h : RowX w b v l) : RowX w.drew b v l := h
theorem RowX.nil (w : World) (b : Nat) : RowX w b (.slice none 0 0) [] := World.ownsRow_nil w b _ _
theorem RowX.one (w : World) (b : Nat) (p : Bx) (hb : b ≤ w.heap.size) : RowX (w.alloc (.cells #[.int .u32 p.a.1, .int .u32 p.a.2, .int .u32 p.b.1, .int .u32 p.b.2, .int .u16 p.c.1, .int .u16 p.c.2, .int .u16 p.d.1, .int .u16 p.d.2, .int .u8 p.m.1, .int .u8 p.m.2] 85)) b (.slice (some ⟨w.heap.size, 0, none⟩) 1 1) [p] :=
 World.ownsRow_lit w #[.int .u32 p.a.1, .int .u32 p.a.2, .int .u32 p.b.1, .int .u32 p.b.2, .int .u16 p.c.1, .int .u16 p.c.2, .int .u16 p.d.1, .int .u16 p.d.2, .int .u8 p.m.1, .int .u8 p.m.2] 1 hb (by simp [maxLen]) rfl
theorem RowX.lt {w : World} {b : Nat} {v : Value} {l : List (Bx)} (h : RowX w b v l) : ∀ k, v.ownBlock = some k → b ≤ k ∧ k < w.heap.size := World.ownsRow.lt h
theorem RowX.put {w : World} {b : Nat} {v : Value} {l : List (Bx)} (h : RowX w b v l) {g i : Nat} (hg : some g ≠ v.ownBlock) (u : Value) : RowX (w.setCell ⟨g, i, none⟩ u) b v l := by
 refine ⟨h.1, ?_⟩
 rcases h.2 with h2 | ⟨g', cap, cur, hv, hb, hh, r⟩
 ·exact .inl h2
 ·exact .inr ⟨g', cap, cur, hv, hb, by rw [Below.heap_setCell _ _ _ _ (by intro e; apply hg; rw [hv]; simp [Value.ownBlock, e])]; exact hh, r⟩
theorem bel_grownX {B : Nat} {a w w' : World} {b : Nat} {v : Value} {l : List (Bx)} (h : Below B a w) (hr : RowX w b v l) (hg : w.grownBy w' v.ownBlock) (hB : B ≤ w.heap.size) (hb : B ≤ b) : Below B a w' :=
 h.grown hg hB fun k hk => Nat.le_trans hb (hr.lt k hk).1
theorem RowX.form {w : World} {b : Nat} {v : Value} {l : List (Bx)} (h : RowX w b v l) :
  ∃ (ad : Option Addr) (cap : Nat), v = .slice ad l.length cap ∧ l.length ≤ cap ∧ (0 < l.length → ∃ g, ad = some ⟨g, 0, none⟩ ∧ b ≤ g ∧ g < w.heap.size ∧ ∀ k (hk : k < l.length) j, j < 10 → w.cell? ⟨g, k * 10 + j, none⟩ = (encX (l[k]'hk))[j]?) := by
 rcases h.2 with ⟨hv, hn⟩ | ⟨g, cap, cur, hv, hb, hg, hcap, r⟩
 ·exact ⟨none, 0, by rw [hv, hn], by omega, fun h0 => by omega⟩
 ·subst hv
  refine ⟨_, cap, rfl, hcap, fun _ => ⟨g, rfl, hb, (Array.getElem?_eq_some_iff.1 hg).1, fun k hk j hj => ?_⟩⟩
  have h' : w.ownsRow b 85 10 (.slice (some ⟨g, 0, none⟩) l.length cap) l.length (flatX l) := h
  rw [h'.cellAt (k * 10 + j) (by omega), flatX_at l k hk j hj]
theorem RowX.frozen {w : World} {b g cap n : Nat} {l : List (Bx)} (h : RowX w b (.slice (some ⟨g, 0, none⟩) n cap) l) (j : Nat) : w.frozen? ⟨g, j, none⟩ = false := by
 rcases h.2 with ⟨hv, _⟩ | ⟨g', cap', cur, hv, hb, hg, r⟩
 ·cases hv
 ·cases hv; simp [World.frozen?, hg]
end Go.Proofs.YtabkbfopklpckaaGreat.Xb
