/-
  PkAE: ShA MkB BxA MkU, one behind the other (tools/pack.py).
-/
import Derived.Test.YtgokmkholjfhbaaGreatPkAD
import Derived.Test.YtgokmkholjfhbaaGreatPkAA
import Derived.Maps.AppendAt
import Derived.OwnWalk
set_option linter.unusedVariables false
set_option linter.unusedSimpArgs false
namespace Go.Proofs.YtgokmkholjfhbaaGreat
open Go.RowKit
theorem nrm : (∀ (α : Type) (xs : List α) (i : Nat) (h : i < xs.toArray.size), xs.toArray[i]'h = xs[i]'(by simpa using h)) ∧ (∀ (α : Type) (a : α) (xs : List α) (i : Nat) (h : i + 1 < (a :: xs).length), (a :: xs)[i + 1]'h = xs[i]'(Nat.lt_of_succ_lt_succ h)) ∧ (∀ (α : Type) (a : α) (xs : List α) (h : 0 < (a :: xs).length), (a :: xs)[0]'h = a) ∧ (∀ (α : Type) (l : List α) (i : Nat) (a : α), l.toArray.setIfInBounds i a = (l.set i a).toArray) ∧ (∀ (α : Type) (x y : α) (xs : List α), (x :: xs).set 0 y = y :: xs) ∧ (∀ (α : Type) (x y : α) (xs : List α) (i : Nat), (x :: xs).set (i + 1) y = x :: xs.set i y) ∧ (∀ (a : Act) (d : Tmp) (v : Value), Act.put a (some d) v = { a with tmps := a.tmps.setIfInBounds d v }) ∧ (∀ (a : Act) (v : Value), Act.put a none v = a) :=
 ⟨fun _ _ _ _ => by simp, fun _ _ _ _ _ => by simp, fun _ _ _ _ => by simp, fun _ _ _ _ => by simp, fun _ _ _ _ => rfl, fun _ _ _ _ _ => rfl, fun _ _ _ => rfl, fun _ _ => rfl⟩
theorem wpOne {P : Program} {ops : Array Oper} {Q : Exit → Act → World → Prop} {md : Region.Mode} {S : World → Prop} (i : Nat) {o : Oper} {fuel : Nat} {listed : Array Bool} {a : Act} {w : World} (hr : Region.ready md ops listed = [i]) (hi : ops[i]? = some o) (hw : Region.wanted o (yielded ops a.tmps) = true)
  (h : ∀ K' : Act → World → Prop, (∀ a' w', S w' ∧ wpAnyH P md ops Q S fuel (listed.setIfInBounds i true) a' w' → K' a' w') → o.wp P a w K' Q) : wpAnyH P md ops Q S (fuel + 1) listed a w :=
 wpAnyH_all hr (by simp) fun j hj => by
  rw [List.mem_singleton] at hj
  subst hj
  exact wpOp_of_wp hi hw h
theorem wpTk {P : Program} {ops : Array Oper} {Q : Exit → Act → World → Prop} {md : Region.Mode} {S : World → Prop} {i : Nat} {oi : Oper} {v : Value} {fuel : Nat} {listed : Array Bool} {a : Act} {w : World} (hS : S w)
  (h : wpAnyH P md ops Q S fuel (listed.setIfInBounds i true) (a.put oi.dst v) w) (hi : ops[i]? = some oi := by rfl) (hs : Region.noSelect ops = true := by kernel_rfl) (hf : Region.free md ops listed i = true := by kernel_rfl) (hr : (Region.ready md ops listed).contains i = true := by kernel_rfl)
  (hQ : ∀ c a w, Q (.panic c) (a.put oi.dst v) w → Q (.panic c) a w := by exact fun _ _ _ h => h) (hw : Region.wanted oi (yielded ops a.tmps) = true := by rfl) (hv : ∀ w, S w → (execOp a.eval oi).run P w = .ok (.value v) w := by intro _ _; simp [execOp, go_sem]) : wpAnyH P md ops Q S (fuel + 1) listed a w :=
 wpAnyH_take hi hs hf hr hQ (.inl ⟨hw, hv⟩) hS h
theorem wpLd {P : Program} {ops : Array Oper} {Q : Exit → Act → World → Prop} {md : Region.Mode} {S : World → Prop} {i : Nat} {oi : Oper} {v : Value} {fuel : Nat} {listed : Array Bool} {a : Act} {w : World} (hi : ops[i]? = some oi) (hy : YieldsIf P ops S oi v a) (hS : S w)
  (h : wpAnyH P md ops Q S fuel (listed.setIfInBounds i true) (a.put oi.dst v) w) (hs : Region.noSelect ops = true := by kernel_rfl) (hf : Region.free md ops listed i = true := by kernel_rfl) (hr : (Region.ready md ops listed).contains i = true := by kernel_rfl)
  (hQ : ∀ c a w, Q (.panic c) (a.put oi.dst v) w → Q (.panic c) a w := by exact fun _ _ _ h => h) : wpAnyH P md ops Q S (fuel + 1) listed a w :=
 wpAnyH_take hi hs hf hr hQ hy hS h
theorem wpSt {P : Program} {op : Oper} {a : Act} {w : World} {K : Act → World → Prop} {Q : Exit → Act → World → Prop} (ty : TypeId) (x y : Operand) (ho : op.op = .store ty x y)
  (B o : Nat) (cs new : Array Value) (hx : a.eval x = .pointer (some ⟨B, o, none⟩)) (hy : a.eval y = .agg cs) (t : TypeId) (old : Array Value) (h : w.heap[B]? = some (.cells old t (0, 0)))
  (hk : ∀ w', w'.heap[B]? = some (.cells new t (0, 0)) → Only B w w' → K (a.put op.dst undef) w') (hl : o + cs.size ≤ old.size := by exact Nat.le_of_ble_eq_true rfl) (hn : old.toList.take o ++ cs.toList ++ old.toList.drop (o + cs.size) = new.toList := by rfl)
  (hi : (P.info? ty).map (·.size) = some cs.size := by kernel_rfl) (h1 : cs.toList.all (·.oneCell') = true := by rfl) : op.wp P a w K Q :=
 wp_store_blk ty x y ho B o cs new hx hy t old h hl hn hi h1 hk
theorem mmL : (∀ (a b : Nat) (l : List Nat), (a ∈ b :: l) = (a = b ∨ a ∈ l)) ∧ (∀ a : Nat, (a ∈ ([] : List Nat)) = False) ∧ (∀ p : Prop, (p ∨ False) = p) :=
 ⟨fun _ _ _ => by simp, fun _ => by simp, fun _ => by simp⟩
theorem wpO {P : Program} {ops : Array Oper} {Q : Exit → Act → World → Prop} {md : Region.Mode} {S : World → Prop} (i : Nat) {o : Oper} {fuel : Nat} {listed : Array Bool} {a : Act} {w : World}
  (h : ∀ K' : Act → World → Prop, (∀ a' w', S w' ∧ wpAnyH P md ops Q S fuel (listed.setIfInBounds i true) a' w' → K' a' w') → o.wp P a w K' Q)
  (hr : Region.ready md ops listed = [i] := by kernel_rfl) (hi : ops[i]? = some o := by rfl) (hw : Region.wanted o (yielded ops a.tmps) = true := by rfl) : wpAnyH P md ops Q S (fuel + 1) listed a w := wpOne i hr hi hw h
theorem kcL {W : World} {p : Addr} {v : Value} (hv : W.cell? p = some v := by first | assumption | (simp [go_sem]; done) | simp [go_sem, *]) (hp : p.block < W.heap.size := by first | omega | (simp <;> omega)) : ∀ y : Kin W, y.val.cell? p = some v := fun y => (kin_cell hp y).trans hv
theorem belA {B : Nat} {a w : World} (h : Below B a w := by (repeat (first | assumption | exact Below.refl _ _ | refine Below.drew ?_ | refine bel_drewN ?_ _ | refine Below.setCell ?_ (by first | omega | (simp; done) | (simp; omega)) _ | refine Below.alloc ?_ (by first | omega | (simp; done) | (simp; omega)) _ | refine bel_of ?_ (by assumption)))) : Below B a w := h
theorem thn {w a b : World} (h : Below w.heap.size w a) (k : Below a.heap.size a b) : Below w.heap.size w b := h.trans (k.mono h.size)
theorem tho {B n : Nat} {w a b : World} (h : Below n w a) (k : Only B a b) (hl : n ≤ B := by omega) : Below n w b := h.trans (k.below hl)
theorem rcheckM (v c : Nat) (w : World) (hv : v < 256) (hc : c < 256) :
  Calls Tryz.prog 57 #[.agg #[.int .u8 v, .int .u8 c]] w fun e w' => e = .returned (.int .i64 (chk v c)) ∧ Below w.heap.size w w' := by
 go_enter Tryz.func57, Tryz.ntmps57
 go_wp2_with (fail)
 go_loop [3] (fun i => ∃ k : Nat, k ≤ 8 ∧ i = .int .i64 k ∧ Hid (∀ j, j < k → ¬ (tb v j = 1 ∧ tb c j = 0))) (fun i => 8 - (intOf i).toNat)
 case atStart => exact ⟨0, Nat.zero_le _, rfl, fun j hj => by omega⟩
 case round =>
  obtain ⟨k, hk, rfl, hag⟩ := hrel
  by_cases hlt : k < 8
  ·have hlt' : (k : Int) < 8 := by omega
   go_wp2_with (fail)
   refine (bitM v k _ hv (by omega)).mono ?_
   rintro e w' ⟨rfl, hw⟩
   obtain rfl := hw.symm
   clear hw
   have hb1 := tb_lt v k
   have hb2 := tb_lt c k
   obtain e1 | e1 : tb v k = 0 ∨ tb v k = 1 := by omega
   ·rw [e1]
    go_wp2_with (fail)
    go_round
    case rel => exact ⟨k + 1, by omega, by go_num, fun j hj => by
     by_cases ej : j = k
     ·subst ej; rw [e1]; simp
     ·exact hag.out j (by omega)⟩
    case measure => simp [intOf]; omega
   ·rw [e1]
    go_wp2_with (fail)
    refine (bitM c k _ hc (by omega)).mono ?_
    rintro e w' ⟨rfl, hw⟩
    obtain rfl := hw.symm
    clear hw
    obtain e2 | e2 : tb c k = 0 ∨ tb c k = 1 := by omega
    ·rw [e2]
     go_wp2_with (fail)
     go_ret
     refine ⟨ret_int ?_, belA⟩
     cases ho : okM v c
     ·exact (chk_no ho).symm
     ·exact absurd ⟨e1, e2⟩ ((ok_bits hv).1 ho k hlt)
    ·rw [e2]
     go_wp2_with (fail)
     go_round
     case rel => exact ⟨k + 1, by omega, by go_num, fun j hj => by
      by_cases ej : j = k
      ·subst ej; rw [e2]; simp
      ·exact hag.out j (by omega)⟩
     case measure => simp [intOf]; omega
  ·obtain rfl : k = 8 := by omega
   go_wp2
   go_ret
   refine ⟨ret_int ?_, belA⟩
   exact (chk_ok ((ok_bits hv).2 hag.out)).symm
theorem rhasM (v c p : Nat) (w : World) (hv : v < 256) (hc : c < 256) (hp : p < 256) :
  Calls Tryz.prog 73 #[.agg #[.int .u8 v, .int .u8 c], .int .u8 p] w fun e w' => e = .returned (.bool (hasM v c p)) ∧ Below w.heap.size w w' := by
 have hcal := fun W => rcheckM v c W hv hc
 cases ho : okM v c
 ·rw [hasM_of_not ho]
  rw [chk_no ho] at hcal
  go_enter Tryz.func73, Tryz.ntmps73
  go_wp2_with (fail)
  refine (hcal _).mono ?_
  rintro e w1 ⟨rfl, hb1⟩
  go_wp2
  go_ret
  exact ⟨rfl, belA⟩
 ·rw [chk_ok ho] at hcal
  go_enter Tryz.func73, Tryz.ntmps73
  go_wp2_with (fail)
  refine (hcal _).mono ?_
  rintro e w1 ⟨rfl, hb1⟩
  have c0 : w1.cell? ⟨w.heap.size, 0, none⟩ = some (.int .u8 v) := cell_on1 hb1 (by simp [go_sem])
  have c1 : w1.cell? ⟨w.heap.size, 1, none⟩ = some (.int .u8 c) := cell_on1 hb1 (by simp [go_sem])
  have hbw : Hid (Below w.heap.size w w1) := by show Below _ _ _; exact belA
  have hz1 := hb1.size
  simp at hz1
  clear hb1 hcal
  go_wp2_with (fail)
  go_loop [5] (fun i => ∃ k : Nat, k ≤ 8 ∧ i = .int .i64 k ∧ Hid (∀ j, j < k → ¬ (tb c j = 1 ∧ ¬ tb v j = tb p j))) (fun i => 8 - (intOf i).toNat)
  case atStart => exact ⟨0, Nat.zero_le _, rfl, fun j hj => by omega⟩
  case round =>
   obtain ⟨k, hk, rfl, hag⟩ := hrel
   by_cases hlt : k < 8
   ·have hlt' : (k : Int) < 8 := by omega
    go_wp2_with (fail)
    refine (bitM c k _ hc (by omega)).mono ?_
    rintro e w' ⟨rfl, hw⟩
    obtain rfl := hw.symm
    clear hw
    have hb1 := tb_lt c k
    obtain e1 | e1 : tb c k = 0 ∨ tb c k = 1 := by omega
    ·rw [e1]
     go_wp2_with (fail)
     go_round
     case rel => exact ⟨k + 1, by omega, by go_num, fun j hj => by
      by_cases ej : j = k
      ·subst ej; rw [e1]; simp
      ·exact hag.out j (by omega)⟩
     case measure => simp [intOf]; omega
    ·rw [e1]
     go_wp2_with (fail)
     refine (bitM v k _ hv (by omega)).mono ?_
     rintro e w' ⟨rfl, hw⟩
     obtain rfl := hw.symm
     clear hw
     go_wp2_with (fail)
     refine (bitM p k _ hp (by omega)).mono ?_
     rintro e w' ⟨rfl, hw⟩
     obtain rfl := hw.symm
     clear hw
     by_cases e2 : tb v k = tb p k
     ·rw [e2]
      go_wp2_with (fail)
      go_round
      case rel => exact ⟨k + 1, by omega, by go_num, fun j hj => by
       by_cases ej : j = k
       ·subst ej; rw [e2]; simp
       ·exact hag.out j (by omega)⟩
      case measure => simp [intOf]; omega
     ·have e3 : ¬ ((tb v k : Nat) : Int) = ((tb p k : Nat) : Int) := by omega
      have HE : Hid (tb c k = 1 ∧ ¬ tb v k = tb p k) := ⟨e1, e2⟩
      clear e1 e2 hag
      go_wp2_with (fail)
      go_ret
      refine ⟨ret_same ?_, hbw.out⟩
      cases hh : hasM v c p
      ·rfl
      ·exact absurd HE.out ((has_bits hv hc ho).1 hh k hlt)
   ·obtain rfl : k = 8 := by omega
    go_wp2
    go_ret
    exact ⟨ret_same ((has_bits hv hc ho).2 hag.out).symm, hbw.out⟩
theorem meet_no (v c x d : Nat) (w : World) (hv : v < 256) (hc : c < 256) (hx : x < 256) (hd : d < 256) (h : (okM v c && okM x d && !apM v c x d) = false) :
  Calls Tryz.prog 96 #[.agg #[.int .u8 v, .int .u8 c], .agg #[.int .u8 x, .int .u8 d]] w fun e w' => e = .returned (.tuple #[.agg #[.int .u8 0, .int .u8 0], .bool false]) ∧ Below w.heap.size w w' := by
 have hcal := fun W => mayBe_any v c x d W hv hc hx hd
 have hcal2 := fun W => apartM v c x d W hv hc hx hd
 cases ho : (okM v c && okM x d)
 ·rw [ho] at hcal
  go_enter Tryz.func96, Tryz.ntmps96
  go_wp2_with (fail)
  refine (hcal _).mono ?_
  rintro e w1 ⟨rfl, hb1⟩
  have c0 : w1.cell? ⟨w.heap.size + 1 + 1, 0, none⟩ = some (.int .u8 0) := cell_on1 hb1 (by simp [go_sem])
  have c1 : w1.cell? ⟨w.heap.size + 1 + 1, 1, none⟩ = some (.int .u8 0) := cell_on1 hb1 (by simp [go_sem])
  have f0 : w1.frozen? ⟨w.heap.size + 1 + 1, 0, none⟩ = false := by rw [hb1.frozen (by simp)]; simp [go_sem]
  have f1 : w1.frozen? ⟨w.heap.size + 1 + 1, 1, none⟩ = false := by rw [hb1.frozen (by simp)]; simp [go_sem]
  have hbw : Hid (Below w.heap.size w w1) := by show Below _ _ _; exact belA
  clear hb1
  go_wp2
  exact bodyPost_ret (v := .tuple #[.agg #[.int .u8 0, .int .u8 0], .bool false]) (by simp [results, Tryz.results96, go_sem, *]) rfl ⟨rfl, by have := hbw.out; (repeat (first | assumption | exact Below.refl _ _ | refine Below.drew ?_ | refine bel_drewN ?_ _ | refine Below.setCell ?_ (by first | omega | (simp; done) | (simp; omega)) _ | refine Below.alloc ?_ (by first | omega | (simp; done) | (simp; omega)) _ | refine bel_of ?_ (by assumption)))⟩
 ·rw [ho] at hcal h
  rw [Bool.true_and] at h
  rw [show apM v c x d = true by simpa using h] at hcal2
  go_enter Tryz.func96, Tryz.ntmps96
  go_wp2_with (fail)
  refine (hcal _).mono ?_
  rintro e w1 ⟨rfl, hb1⟩
  have c0 : w1.cell? ⟨w.heap.size + 1 + 1, 0, none⟩ = some (.int .u8 0) := cell_on1 hb1 (by simp [go_sem])
  have c1 : w1.cell? ⟨w.heap.size + 1 + 1, 1, none⟩ = some (.int .u8 0) := cell_on1 hb1 (by simp [go_sem])
  have f0 : w1.frozen? ⟨w.heap.size + 1 + 1, 0, none⟩ = false := by rw [hb1.frozen (by simp)]; simp [go_sem]
  have f1 : w1.frozen? ⟨w.heap.size + 1 + 1, 1, none⟩ = false := by rw [hb1.frozen (by simp)]; simp [go_sem]
  have a0 : w1.cell? ⟨w.heap.size, 0, none⟩ = some (.int .u8 v) := cell_on1 hb1 (by simp [go_sem])
  have a1 : w1.cell? ⟨w.heap.size, 1, none⟩ = some (.int .u8 c) := cell_on1 hb1 (by simp [go_sem])
  have b0 : w1.cell? ⟨w.heap.size + 1, 0, none⟩ = some (.int .u8 x) := cell_on1 hb1 (by simp [go_sem])
  have b1 : w1.cell? ⟨w.heap.size + 1, 1, none⟩ = some (.int .u8 d) := cell_on1 hb1 (by simp [go_sem])
  have hbw : Hid (Below w.heap.size w w1) := by show Below _ _ _; exact belA
  have hz := hb1.size
  simp at hz
  clear hb1
  go_wp2_with (fail)
  refine (hcal2 _).mono ?_
  rintro e w2 ⟨rfl, hb2⟩
  have C0 : w2.cell? ⟨w.heap.size + 1 + 1, 0, none⟩ = some (.int .u8 0) := cell_on1 hb2 c0
  have C1 : w2.cell? ⟨w.heap.size + 1 + 1, 1, none⟩ = some (.int .u8 0) := cell_on1 hb2 c1
  have F0 : w2.frozen? ⟨w.heap.size + 1 + 1, 0, none⟩ = false := by rw [hb2.frozen (by show w.heap.size + 1 + 1 < _; omega)]; exact f0
  have F1 : w2.frozen? ⟨w.heap.size + 1 + 1, 1, none⟩ = false := by rw [hb2.frozen (by show w.heap.size + 1 + 1 < _; omega)]; exact f1
  have hbw2 : Hid (Below w.heap.size w w2) := hbw.out.trans (hb2.mono (by omega))
  clear hb2 c0 c1 f0 f1 a0 a1 b0 b1
  go_wp2
  exact bodyPost_ret (v := .tuple #[.agg #[.int .u8 0, .int .u8 0], .bool false]) (by simp [results, Tryz.results96, go_sem, *]) rfl ⟨rfl, by have := hbw2.out; (repeat (first | assumption | exact Below.refl _ _ | refine Below.drew ?_ | refine bel_drewN ?_ _ | refine Below.setCell ?_ (by first | omega | (simp; done) | (simp; omega)) _ | refine Below.alloc ?_ (by first | omega | (simp; done) | (simp; omega)) _ | refine bel_of ?_ (by assumption)))⟩
theorem meet_yes (v c x d : Nat) (w : World) (hv : v < 256) (hc : c < 256) (hx : x < 256) (hd : d < 256) (h : (okM v c && okM x d && !apM v c x d) = true) :
  Calls Tryz.prog 96 #[.agg #[.int .u8 v, .int .u8 c], .agg #[.int .u8 x, .int .u8 d]] w fun e w' => e = .returned (.tuple #[.agg #[.int .u8 (v ||| x : Nat), .int .u8 (c ||| d : Nat)], .bool true]) ∧ Below w.heap.size w w' := by
 have hcal := fun W => mayBe_any v c x d W hv hc hx hd
 have hcal2 := fun W => apartM v c x d W hv hc hx hd
 rw [Bool.and_eq_true] at h
 rw [h.1] at hcal
 rw [show apM v c x d = false by simpa using h.2] at hcal2
 rw [← u8_or_nat v x hv hx, ← u8_or_nat c d hc hd]
 go_enter Tryz.func96, Tryz.ntmps96
 go_wp2_with (fail)
 refine (hcal _).mono ?_
 rintro e w1 ⟨rfl, hb1⟩
 have c0 : w1.cell? ⟨w.heap.size + 1 + 1, 0, none⟩ = some (.int .u8 0) := cell_on1 hb1 (by simp [go_sem])
 have c1 : w1.cell? ⟨w.heap.size + 1 + 1, 1, none⟩ = some (.int .u8 0) := cell_on1 hb1 (by simp [go_sem])
 have f0 : w1.frozen? ⟨w.heap.size + 1 + 1, 0, none⟩ = false := by rw [hb1.frozen (by simp)]; simp [go_sem]
 have f1 : w1.frozen? ⟨w.heap.size + 1 + 1, 1, none⟩ = false := by rw [hb1.frozen (by simp)]; simp [go_sem]
 have a0 : w1.cell? ⟨w.heap.size, 0, none⟩ = some (.int .u8 v) := cell_on1 hb1 (by simp [go_sem])
 have a1 : w1.cell? ⟨w.heap.size, 1, none⟩ = some (.int .u8 c) := cell_on1 hb1 (by simp [go_sem])
 have b0 : w1.cell? ⟨w.heap.size + 1, 0, none⟩ = some (.int .u8 x) := cell_on1 hb1 (by simp [go_sem])
 have b1 : w1.cell? ⟨w.heap.size + 1, 1, none⟩ = some (.int .u8 d) := cell_on1 hb1 (by simp [go_sem])
 have hbw : Hid (Below w.heap.size w w1) := by show Below _ _ _; exact belA
 have hz := hb1.size
 simp at hz
 clear hb1
 go_wp2_with (fail)
 refine (hcal2 _).mono ?_
 rintro e w2 ⟨rfl, hb2⟩
 have C0 : w2.cell? ⟨w.heap.size + 1 + 1, 0, none⟩ = some (.int .u8 0) := cell_on1 hb2 c0
 have C1 : w2.cell? ⟨w.heap.size + 1 + 1, 1, none⟩ = some (.int .u8 0) := cell_on1 hb2 c1
 have F0 : w2.frozen? ⟨w.heap.size + 1 + 1, 0, none⟩ = false := by rw [hb2.frozen (by show w.heap.size + 1 + 1 < _; omega)]; exact f0
 have F1 : w2.frozen? ⟨w.heap.size + 1 + 1, 1, none⟩ = false := by rw [hb2.frozen (by show w.heap.size + 1 + 1 < _; omega)]; exact f1
 have A0 := cell_on1 hb2 a0
 have A1 := cell_on1 hb2 a1
 have B0 := cell_on1 hb2 b0
 have B1 := cell_on1 hb2 b1
 have hbw2 : Hid (Below w.heap.size w w2) := hbw.out.trans (hb2.mono (by omega))
 clear hb2 c0 c1 f0 f1 a0 a1 b0 b1
 go_wp2
 exact bodyPost_ret (v := .tuple #[.agg #[.int .u8 (bits .or .u8 v x), .int .u8 (bits .or .u8 c d)], .bool true]) (by simp [results, Tryz.results96, go_sem, *]) rfl ⟨rfl, by have := hbw2.out; (repeat (first | assumption | exact Below.refl _ _ | refine Below.drew ?_ | refine bel_drewN ?_ _ | refine Below.setCell ?_ (by first | omega | (simp; done) | (simp; omega)) _ | refine Below.alloc ?_ (by first | omega | (simp; done) | (simp; omega)) _ | refine bel_of ?_ (by assumption)))⟩
end Go.Proofs.YtgokmkholjfhbaaGreat

namespace Go.Proofs.YtgokmkholjfhbaaGreat.Xb
open Go.RowKit
def chkX (X : Bx) : Int := if okI X.a && okI X.b then (if okI X.c && okI X.d then (if okM X.m.1 X.m.2 then 0 else 40) else 30) else 70
theorem chkX_ok {X : Bx} : chkX X = 0 ↔ okX X = true := by
 unfold chkX okX
 cases okI X.a <;> cases okI X.b <;> cases okI X.c <;> cases okI X.d <;> cases okM X.m.1 X.m.2 <;> simp
end Go.Proofs.YtgokmkholjfhbaaGreat.Xb
namespace Go.Proofs.YtgokmkholjfhbaaGreat
open Go.RowKit
def flat : List (Nat × Nat) → List Value
 | [] => []
 | p :: l => .int .u8 p.1 :: .int .u8 p.2 :: flat l
theorem flat_at : ∀ (l : List (Nat × Nat)) (i : Nat) (h : i < l.length), (flat l)[i * 2]? = some (.int .u8 ((l[i]'h).1 : Int)) ∧ (flat l)[i * 2 + 1]? = some (.int .u8 ((l[i]'h).2 : Int))
 | p :: l, 0, _ => ⟨rfl, rfl⟩
 | p :: l, i + 1, h => by
  have := flat_at l i (by simpa using h)
  rw [show (i + 1) * 2 = i * 2 + 2 by omega]
  exact this
def Row (w : World) (base : Nat) (v : Value) (l : List (Nat × Nat)) : Prop := w.ownsRow base 62 2 v l.length (flat l)
theorem Row.base {w : World} {b b' : Nat} {v : Value} {l : List (Nat × Nat)} (h : Row w b v l) (hb : b' ≤ b) : Row w b' v l := by
 refine ⟨h.1, ?_⟩
 rcases h.2 with h2 | ⟨g, cap, cur, hv, hg, r⟩
 ·exact .inl h2
 ·exact .inr ⟨g, cap, cur, hv, by omega, r⟩
theorem Row.on {w w1 : World} {b : Nat} {v : Value} {l : List (Nat × Nat)} (h : Row w b v l) (hb : Below w.heap.size w w1) : Row w1 b v l := by
 refine ⟨h.1, ?_⟩
 rcases h.2 with h2 | ⟨g, cap, cur, hv, hg, hh, r⟩
 ·exact .inl h2
 ·exact .inr ⟨g, cap, cur, hv, hg, by rw [hb.block g (Array.getElem?_eq_some_iff.1 hh).1]; exact hh, r⟩
theorem Row.alloc {w : World} {b : Nat} {v : Value} {l : List (Nat × Nat)} (h : Row w b v l) (o : Obj) : Row (w.alloc o) b v l := World.ownsRow.alloc h o
theorem Row.nil (w : World) (b : Nat) : Row w b (.slice none 0 0) [] := World.ownsRow_nil w b _ _
theorem Row.one (w : World) (b a n : Nat) (hb : b ≤ w.heap.size) : Row (w.alloc (.cells #[.int .u8 a, .int .u8 n] 62)) b (.slice (some ⟨w.heap.size, 0, none⟩) 1 1) [(a, n)] :=
 World.ownsRow_lit w #[.int .u8 a, .int .u8 n] 1 hb (by decide) rfl
theorem Row.one2 (w : World) (b : Nat) {x y : Int} (a n : Nat) {B : Nat} (hB : B = w.heap.size) (hx : x = (a : Int)) (hy : y = (n : Int)) (hb : b ≤ w.heap.size) : Row (w.alloc (.cells #[.int .u8 x, .int .u8 y] 62)) b (.slice (some ⟨B, 0, none⟩) 1 1) [(a, n)] := by
 subst hx hy hB; exact Row.one w b a n hb
theorem Row.lt {w : World} {b : Nat} {v : Value} {l : List (Nat × Nat)} (h : Row w b v l) : ∀ k, v.ownBlock = some k → b ≤ k ∧ k < w.heap.size := World.ownsRow.lt h
theorem Row.form {w : World} {b : Nat} {v : Value} {l : List (Nat × Nat)} (h : Row w b v l) :
  ∃ (ad : Option Addr) (cap : Nat), v = .slice ad l.length cap ∧ l.length ≤ cap ∧ (0 < l.length → ∃ g, ad = some ⟨g, 0, none⟩ ∧ b ≤ g ∧ g < w.heap.size ∧ ∀ k (hk : k < l.length), w.cell? ⟨g, k * 2, none⟩ = some (.int .u8 ((l[k]'hk).1 : Int)) ∧ w.cell? ⟨g, k * 2 + 1, none⟩ = some (.int .u8 ((l[k]'hk).2 : Int))) := by
 rcases h.2 with ⟨hv, hn⟩ | ⟨g, cap, cur, hv, hb, hg, hcap, r⟩
 ·exact ⟨none, 0, by rw [hv, hn], by omega, fun h0 => by omega⟩
 ·subst hv
  refine ⟨_, cap, rfl, hcap, fun _ => ⟨g, rfl, hb, (Array.getElem?_eq_some_iff.1 hg).1, fun k hk => ?_⟩⟩
  have h' : w.ownsRow b 62 2 (.slice (some ⟨g, 0, none⟩) l.length cap) l.length (flat l) := h
  have hf := flat_at l k hk
  exact ⟨by rw [h'.cellAt (k * 2) (by omega), hf.1], by rw [h'.cellAt (k * 2 + 1) (by omega), hf.2]⟩
theorem Row.frozen {w : World} {b g cap n : Nat} {l : List (Nat × Nat)} (h : Row w b (.slice (some ⟨g, 0, none⟩) n cap) l) (j : Nat) : w.frozen? ⟨g, j, none⟩ = false := by
 rcases h.2 with ⟨hv, _⟩ | ⟨g', cap', cur, hv, hb, hg, r⟩
 ·cases hv
 ·cases hv; simp [World.frozen?, hg]
end Go.Proofs.YtgokmkholjfhbaaGreat
