/-
  The scanner's small functions: what begins with a byte, the longest row, the first line.
-/
import Derived.Test.YtehedlgdencboabGreatDoorLxSh
import Derived.Test.YtehedlgdencboabGreatDoorLxR
import Derived.WalkMore
import Derived.Deep.DeepCutAuto
namespace Go.Proofs.YtehedlgdencboabGreatDoor
open Go.RowKit
set_option linter.unusedVariables false
set_option linter.unusedSimpArgs false

theorem slTo (s : ByteArray) (j : Nat) (h : j ≤ s.size) (w : World) : (Instr.slice 9 (.string s) none (some (.int .i64 (j : Int))) none).run Tryz.prog w = .ok (.string (s.extract 0 j)) w := by
  rw [run_slice_string_to_if w 9 s .i64 (j : Int) Tryz.underlying9, if_pos (by omega)]
  simp
theorem slFrom (s : ByteArray) (i : Nat) (h : i ≤ s.size) (w : World) : (Instr.slice 9 (.string s) (some (.int .i64 (i : Int))) none none).run Tryz.prog w = .ok (.string (s.extract i s.size)) w := by
  rw [run_slice_string_from_if w 9 s .i64 (i : Int) Tryz.underlying9, if_pos (by omega)]
  simp
theorem cnvB (c : Nat) (h : c < 256) (w : World) : (convert 5 21 (.int .u8 (c : Int))).run Tryz.prog w = .ok (.int .i32 (c : Int)) w := by
  rw [run_convert_int w 5 21 .u8 (c : Int) (by kernel_rfl) (by kernel_rfl)]
  have e : Tryz.prog.intKind 21 = .i32 := by kernel_rfl
  rw [e]
  rw [wraps_i32 (c : Int) (by omega) (by omega)]
theorem lenS (s : ByteArray) (n : Nat) (hn : n = s.size) (W : World) : (Builtin.len_ #[9] 3 #[.string s]).run Tryz.prog W = .ok (.int .i64 (n : Int)) W := by
  rw [run_len_string W 9 3 s Tryz.underlying9, hn]; rfl
set_option maxRecDepth 20000 in
set_option maxHeartbeats 4000000 in
theorem beginsC (c : Nat) (w : World) : Calls Tryz.prog 93 #[.int .i32 (c : Int)] w fun e w' => e = .returned (.int .i64 (kd c : Int)) ∧ w' = w := by
  go_enter Tryz.func93, Tryz.ntmps93
  go_wp2
  all_goals
    go_ret
    exact ⟨ret_int (by (try simp only [beq_iff_eq, beq_eq_false_iff_ne, decide_eq_true_eq, Bool.or_eq_true, Bool.and_eq_true, not_or, not_and] at *); unfold kd; (repeat' split) <;> omega), rfl⟩
end Go.Proofs.YtehedlgdencboabGreatDoor
