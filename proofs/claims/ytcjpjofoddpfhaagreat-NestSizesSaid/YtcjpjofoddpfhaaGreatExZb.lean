/-
  The zero value of the document's sets of ports: no port.
-/
import Derived.Test.YtcjpjofoddpfhaaGreatExSp
namespace Go.Proofs.YtcjpjofoddpfhaaGreat.Xp
open Go.RowKit
set_option linter.unusedVariables false
set_option linter.unusedSimpArgs false

theorem zero_ok : zeroOK Tryz.t121.zero = true := by kernel_rfl
theorem zero_ports : ∃ cs : Array Value, Tryz.t121.zero = some (.agg cs) ∧ cs.size = 65536 ∧ ∀ i, i < 65536 → cs[i]? = some (.bool false) := by
  have h := zero_ok
  generalize Tryz.t121.zero = z at h
  unfold zeroOK at h
  split at h
  · rename_i cs
    split at h
    · rename_i h1
      have h2 : cs.toList.length = 65536 := Nat.eq_of_beq_eq_true h
      exact ⟨cs, rfl, by simpa using h2, fun i hi => by rw [← Array.getElem?_toList]; exact allNo_get h1 i (by omega)⟩
    · cases h
  · cases h
theorem run_build_ports {cs : Array Value} (hz : Tryz.t121.zero = some (.agg cs)) (w : World) : (Instr.build 121 #[]).run Tryz.prog w = .ok (.agg cs) w := by
  simp [Instr.build, zeroValue, Tryz.typeInfo121, hz, Tryz.runUnderlying121, Instr.fill, Value.cells]
theorem run_zero_ports {cs : Array Value} (hz : Tryz.t121.zero = some (.agg cs)) (w : World) : (zeroValue 121).run Tryz.prog w = .ok (.agg cs) w := by
  simp [zeroValue, Tryz.typeInfo121, hz]
theorem ports_ne {cs : Array Value} (h : cs.size = 65536) : ¬ cs = #[] := fun e => by rw [e] at h; cases h
end Go.Proofs.YtcjpjofoddpfhaaGreat.Xp
