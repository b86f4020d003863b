/-
  Same of the document's answer: two lists that are the same. Written by tools/mkBxRl.py.
-/
import Derived.Test.YthggiblkehcfaaaBxEq
namespace Go.Proofs.Ythggiblkehcfaaa
open Go.RowKit
set_option linter.unusedVariables false
set_option linter.unusedSimpArgs false

set_option maxRecDepth 20000 in
set_option maxHeartbeats 2000000 in
theorem rsameX (l : List Bx) (hl : l.length ≤ 4294967296) (v u : Value) (b c : Nat) (w : World) (h1 : RowX w b v l) (h2 : RowX w c u l) :
    Calls Try.prog 26 #[v, u] w fun e w' => e = .returned (.bool true) ∧ Below w.heap.size w w' := by
  obtain ⟨a1, cap1, rfl, _, f1⟩ := h1.form
  obtain ⟨a2, cap2, rfl, _, f2⟩ := h2.form
  clear h1 h2
  go_enter Try.func26, Try.ntmps26
  go_wp2
  go_loopw [5] (fun i wr => ∃ k d : Nat, k ≤ l.length ∧ i = .int .i64 k ∧ wr = w.drewN d) (fun i _ => l.length - (intOf i).toNat)
  case atStart => exact ⟨0, 0, Nat.zero_le _, rfl, rfl⟩
  case round =>
    obtain ⟨k, d, hk, rfl, rfl⟩ := hrel
    by_cases hlt : k < l.length
    · obtain ⟨g1, rfl, _, _, c1⟩ := f1 (by omega)
      obtain ⟨g2, rfl, _, _, c2⟩ := f2 (by omega)
      obtain ⟨p, hp⟩ : ∃ p, p = l[k] := ⟨_, rfl⟩
      have x0 : w.cell? ⟨g1, k * 10, none⟩ = some (.int .u32 (p.a.1 : Int)) := by rw [hp]; exact c1 k hlt 0 (by decide)
      have y0 : w.cell? ⟨g2, k * 10, none⟩ = some (.int .u32 (p.a.1 : Int)) := by rw [hp]; exact c2 k hlt 0 (by decide)
      have x1 : w.cell? ⟨g1, k * 10 + 1, none⟩ = some (.int .u32 (p.a.2 : Int)) := by rw [hp]; exact c1 k hlt 1 (by decide)
      have y1 : w.cell? ⟨g2, k * 10 + 1, none⟩ = some (.int .u32 (p.a.2 : Int)) := by rw [hp]; exact c2 k hlt 1 (by decide)
      have x2 : w.cell? ⟨g1, k * 10 + 2, none⟩ = some (.int .u32 (p.b.1 : Int)) := by rw [hp]; exact c1 k hlt 2 (by decide)
      have y2 : w.cell? ⟨g2, k * 10 + 2, none⟩ = some (.int .u32 (p.b.1 : Int)) := by rw [hp]; exact c2 k hlt 2 (by decide)
      have x3 : w.cell? ⟨g1, k * 10 + 3, none⟩ = some (.int .u32 (p.b.2 : Int)) := by rw [hp]; exact c1 k hlt 3 (by decide)
      have y3 : w.cell? ⟨g2, k * 10 + 3, none⟩ = some (.int .u32 (p.b.2 : Int)) := by rw [hp]; exact c2 k hlt 3 (by decide)
      have x4 : w.cell? ⟨g1, k * 10 + 4, none⟩ = some (.int .u16 (p.c.1 : Int)) := by rw [hp]; exact c1 k hlt 4 (by decide)
      have y4 : w.cell? ⟨g2, k * 10 + 4, none⟩ = some (.int .u16 (p.c.1 : Int)) := by rw [hp]; exact c2 k hlt 4 (by decide)
      have x5 : w.cell? ⟨g1, k * 10 + 5, none⟩ = some (.int .u16 (p.c.2 : Int)) := by rw [hp]; exact c1 k hlt 5 (by decide)
      have y5 : w.cell? ⟨g2, k * 10 + 5, none⟩ = some (.int .u16 (p.c.2 : Int)) := by rw [hp]; exact c2 k hlt 5 (by decide)
      have x6 : w.cell? ⟨g1, k * 10 + 6, none⟩ = some (.int .u16 (p.d.1 : Int)) := by rw [hp]; exact c1 k hlt 6 (by decide)
      have y6 : w.cell? ⟨g2, k * 10 + 6, none⟩ = some (.int .u16 (p.d.1 : Int)) := by rw [hp]; exact c2 k hlt 6 (by decide)
      have x7 : w.cell? ⟨g1, k * 10 + 7, none⟩ = some (.int .u16 (p.d.2 : Int)) := by rw [hp]; exact c1 k hlt 7 (by decide)
      have y7 : w.cell? ⟨g2, k * 10 + 7, none⟩ = some (.int .u16 (p.d.2 : Int)) := by rw [hp]; exact c2 k hlt 7 (by decide)
      have x8 : w.cell? ⟨g1, k * 10 + 8, none⟩ = some (.int .u8 (p.m.1 : Int)) := by rw [hp]; exact c1 k hlt 8 (by decide)
      have y8 : w.cell? ⟨g2, k * 10 + 8, none⟩ = some (.int .u8 (p.m.1 : Int)) := by rw [hp]; exact c2 k hlt 8 (by decide)
      have x9 : w.cell? ⟨g1, k * 10 + 9, none⟩ = some (.int .u8 (p.m.2 : Int)) := by rw [hp]; exact c1 k hlt 9 (by decide)
      have y9 : w.cell? ⟨g2, k * 10 + 9, none⟩ = some (.int .u8 (p.m.2 : Int)) := by rw [hp]; exact c2 k hlt 9 (by decide)
      clear c1 c2 f1 f2 hp
      have hlt' : (k : Int) < (l.length : Int) := by omega
      have hk0 : (0 : Int) ≤ (k : Int) := by omega
      go_wp2
      go_quiet (fail)
      go_wp2
      go_roundw
      case rel => exact ⟨k + 1, _, by omega, by go_num, rfl⟩
      case measure => simp [intOf]; omega
    · go_wp2
      go_ret
      exact ⟨rfl, by (repeat (first | assumption | exact Below.refl _ _ | refine Below.drew ?_ | refine bel_drewN ?_ _ | refine Below.setCell ?_ (by first | omega | (simp; done) | (simp; omega)) _ | refine Below.alloc ?_ (by first | omega | (simp; done) | (simp; omega)) _ | refine bel_of ?_ (by assumption)))⟩
end Go.Proofs.Ythggiblkehcfaaa
