/-
  Thirteen bytes compared, as one value.
-/
import Derived.Test.YtpgadbiohmofeabHdU
import Derived.ChangeKeysEq
namespace Go.Proofs.Ytpgadbiohmofeab
open Go.RowKit
set_option linter.unusedVariables false
set_option linter.unusedSimpArgs false

theorem run_part13 (l : List Nat) (k : Nat) (hk : k < 13) (W : World) : (part 5 (#[.int .u8 ((l.getD 0 0 : Nat) : Int), .int .u8 ((l.getD 1 0 : Nat) : Int), .int .u8 ((l.getD 2 0 : Nat) : Int), .int .u8 ((l.getD 3 0 : Nat) : Int), .int .u8 ((l.getD 4 0 : Nat) : Int), .int .u8 ((l.getD 5 0 : Nat) : Int), .int .u8 ((l.getD 6 0 : Nat) : Int), .int .u8 ((l.getD 7 0 : Nat) : Int), .int .u8 ((l.getD 8 0 : Nat) : Int), .int .u8 ((l.getD 9 0 : Nat) : Int), .int .u8 ((l.getD 10 0 : Nat) : Int), .int .u8 ((l.getD 11 0 : Nat) : Int), .int .u8 ((l.getD 12 0 : Nat) : Int)]) (k * Try.prog.cellsOf 5)).run Try.prog W = .ok (.int .u8 ((l.getD k 0 : Nat) : Int)) W := by
  have hc : Try.prog.cellsOf 5 = 1 := by kernel_rfl
  rw [hc, Nat.mul_one]
  match k, hk with
  | 0, _ => simp [part, go_sem]
  | 1, _ => simp [part, go_sem]
  | 2, _ => simp [part, go_sem]
  | 3, _ => simp [part, go_sem]
  | 4, _ => simp [part, go_sem]
  | 5, _ => simp [part, go_sem]
  | 6, _ => simp [part, go_sem]
  | 7, _ => simp [part, go_sem]
  | 8, _ => simp [part, go_sem]
  | 9, _ => simp [part, go_sem]
  | 10, _ => simp [part, go_sem]
  | 11, _ => simp [part, go_sem]
  | 12, _ => simp [part, go_sem]
/-- The places from i on, n of them, are the same. -/
def alike (x y : List Nat) : List Nat → Bool
  | [] => true
  | i :: is => (x.getD i 0 == y.getD i 0) && alike x y is
theorem alike_all (x y : List Nat) : ∀ is : List Nat, alike x y is = true ↔ ∀ i ∈ is, x.getD i 0 = y.getD i 0
  | [] => by simp [alike]
  | i :: is => by simp [alike, alike_all x y is]
theorem run_items13 (x y : List Nat) (W : World) : ∀ is : List Nat, (∀ i ∈ is, i < 13) → (Op.eqItems 9999 5 (Try.prog.cellsOf 5) (#[.int .u8 ((x.getD 0 0 : Nat) : Int), .int .u8 ((x.getD 1 0 : Nat) : Int), .int .u8 ((x.getD 2 0 : Nat) : Int), .int .u8 ((x.getD 3 0 : Nat) : Int), .int .u8 ((x.getD 4 0 : Nat) : Int), .int .u8 ((x.getD 5 0 : Nat) : Int), .int .u8 ((x.getD 6 0 : Nat) : Int), .int .u8 ((x.getD 7 0 : Nat) : Int), .int .u8 ((x.getD 8 0 : Nat) : Int), .int .u8 ((x.getD 9 0 : Nat) : Int), .int .u8 ((x.getD 10 0 : Nat) : Int), .int .u8 ((x.getD 11 0 : Nat) : Int), .int .u8 ((x.getD 12 0 : Nat) : Int)]) (#[.int .u8 ((y.getD 0 0 : Nat) : Int), .int .u8 ((y.getD 1 0 : Nat) : Int), .int .u8 ((y.getD 2 0 : Nat) : Int), .int .u8 ((y.getD 3 0 : Nat) : Int), .int .u8 ((y.getD 4 0 : Nat) : Int), .int .u8 ((y.getD 5 0 : Nat) : Int), .int .u8 ((y.getD 6 0 : Nat) : Int), .int .u8 ((y.getD 7 0 : Nat) : Int), .int .u8 ((y.getD 8 0 : Nat) : Int), .int .u8 ((y.getD 9 0 : Nat) : Int), .int .u8 ((y.getD 10 0 : Nat) : Int), .int .u8 ((y.getD 11 0 : Nat) : Int), .int .u8 ((y.getD 12 0 : Nat) : Int)]) is).run Try.prog W = .ok (alike x y is) W
  | [], _ => by simp [Op.eqItems, alike]
  | i :: is, h => by
    have ih := run_items13 x y W is fun j hj => h j (List.mem_cons_of_mem _ hj)
    have hi := h i List.mem_cons_self
    simp only [Op.eqItems, Sem.run_bind, run_part13 x i hi, run_part13 y i hi, Result.andThen_ok]
    have he : (Op.equalIn 9999 5 (.int .u8 ((x.getD i 0 : Nat) : Int)) (.int .u8 ((y.getD i 0 : Nat) : Int))).run Try.prog W = .ok (x.getD i 0 == y.getD i 0) W := by
      rw [run_equalIn_int W 9998 5 .u8 .u8 _ _ Try.underlying5]
      congr 1
      by_cases e : x.getD i 0 = y.getD i 0
      · rw [e]; simp
      · have : ¬ ((x.getD i 0 : Nat) : Int) = ((y.getD i 0 : Nat) : Int) := by omega
        simp only [beq_eq_false_iff_ne.2 e, beq_eq_false_iff_ne.2 this]
    rw [he]
    simp only [Result.andThen_ok]
    unfold alike
    cases hb : (x.getD i 0 == y.getD i 0)
    · simp
    · rw [if_neg (by simp), ih, Bool.true_and]
theorem run_eq13 (x y : List Nat) (hx : x.length = 13) (hy : y.length = 13) (W : World) : (Op.equalIn 10000 39 (.agg #[.int .u8 ((x.getD 0 0 : Nat) : Int), .int .u8 ((x.getD 1 0 : Nat) : Int), .int .u8 ((x.getD 2 0 : Nat) : Int), .int .u8 ((x.getD 3 0 : Nat) : Int), .int .u8 ((x.getD 4 0 : Nat) : Int), .int .u8 ((x.getD 5 0 : Nat) : Int), .int .u8 ((x.getD 6 0 : Nat) : Int), .int .u8 ((x.getD 7 0 : Nat) : Int), .int .u8 ((x.getD 8 0 : Nat) : Int), .int .u8 ((x.getD 9 0 : Nat) : Int), .int .u8 ((x.getD 10 0 : Nat) : Int), .int .u8 ((x.getD 11 0 : Nat) : Int), .int .u8 ((x.getD 12 0 : Nat) : Int)]) (.agg #[.int .u8 ((y.getD 0 0 : Nat) : Int), .int .u8 ((y.getD 1 0 : Nat) : Int), .int .u8 ((y.getD 2 0 : Nat) : Int), .int .u8 ((y.getD 3 0 : Nat) : Int), .int .u8 ((y.getD 4 0 : Nat) : Int), .int .u8 ((y.getD 5 0 : Nat) : Int), .int .u8 ((y.getD 6 0 : Nat) : Int), .int .u8 ((y.getD 7 0 : Nat) : Int), .int .u8 ((y.getD 8 0 : Nat) : Int), .int .u8 ((y.getD 9 0 : Nat) : Int), .int .u8 ((y.getD 10 0 : Nat) : Int), .int .u8 ((y.getD 11 0 : Nat) : Int), .int .u8 ((y.getD 12 0 : Nat) : Int)])).run Try.prog W = .ok (decide (x = y)) W := by
  obtain ⟨i0, hi, _, _, _⟩ := info_parts info_u8
  rw [run_equalIn_array W 9999 _ _ Try.underlying39 hi, run_items13 x y W (List.range 13) (fun i h => List.mem_range.1 h)]
  congr 1
  rw [Bool.eq_iff_iff, alike_all, decide_eq_true_iff]
  constructor
  · intro h
    refine List.ext_getElem (by omega) fun i h1 h2 => ?_
    have := h i (List.mem_range.2 (by omega))
    simpa [List.getD_eq_getElem?_getD, h1, h2] using this
  · intro h i _; rw [h]
end Go.Proofs.Ytpgadbiohmofeab
