/-
  The document's blank, letter, digit, sign, letters, digits, number of texts (quintetref09).
-/
import Derived.Test.YtehedlgdencboabGreatDoorLxU
import Derived.Deep.DeepCutAuto
namespace Go.Proofs.YtehedlgdencboabGreatDoor
open Go.RowKit
set_option linter.unusedVariables false
set_option linter.unusedSimpArgs false

theorem idxS (s : ByteArray) (k : Nat) (h : k < s.size) (w : World) : (Instr.index 9 (.string s) (.int .i64 (k : Int))).run Tryz.prog w = .ok (.int .u8 ((bt s k : Nat) : Int)) w := by
  rw [run_index_string w 9 s .i64 (k : Int) Tryz.underlying9, dif_pos ⟨by omega, by omega⟩, bt_in h]
  rfl
theorem run_step {p : Nat → Bool} {i k e : Nat} (h1 : i ≤ k) (h2 : k ≤ runB p i e) : (k < e ∧ p k = true → k + 1 ≤ runB p i e) ∧ (¬ (k < e ∧ p k = true) → runB p i e = k) := by
  have h := run_from (p := p) (e := e) _ i k rfl h1 h2
  refine ⟨fun c => ?_, fun c => ?_⟩
  · rw [← h]; exact run_gt c.1 c.2
  · rw [← h, runB_end c]
theorem subU8 (c : Nat) (h1 : 48 ≤ c) (h2 : c ≤ 57) : IntKind.u8.wrap ((c : Int) - 48) = ((c - 48 : Nat) : Int) := by
  rw [show ∀ x : Int, IntKind.u8.wrap x = x % 256 from fun x => rfl]; omega
end Go.Proofs.YtehedlgdencboabGreatDoor
