/-
  The document's Same (quintetref09) of two lists of tokens that are the same. Written by tools/mkLxS.py.
-/
import Derived.Test.YtpbbeemlaigimaaDoorLxU
import Derived.Deep.DeepCutAuto
namespace Go.Proofs.YtpbbeemlaigimaaDoor
open Go.RowKit
set_option linter.unusedVariables false
set_option linter.unusedSimpArgs false

theorem neqT (p : Tk) (w : World) : Sem.run Tryd.prog (binOp .neq 38 (.agg #[.int .i64 (p.k : Int), .string p.t, .int .u32 (p.v : Int), .int .i64 (p.l : Int), .int .i64 (p.c : Int)]) (.agg #[.int .i64 (p.k : Int), .string p.t, .int .u32 (p.v : Int), .int .i64 (p.l : Int), .int .i64 (p.c : Int)])) w = .ok (.bool false) w := by
  simp [go_sem]
theorem eqT (p : Tk) (w : World) : Sem.run Tryd.prog (binOp .eql 38 (.agg #[.int .i64 (p.k : Int), .string p.t, .int .u32 (p.v : Int), .int .i64 (p.l : Int), .int .i64 (p.c : Int)]) (.agg #[.int .i64 (p.k : Int), .string p.t, .int .u32 (p.v : Int), .int .i64 (p.l : Int), .int .i64 (p.c : Int)])) w = .ok (.bool true) w := by
  simp [go_sem]
set_option maxRecDepth 20000 in
set_option maxHeartbeats 4000000 in
theorem rsameT (v u : Value) (l : List Tk) (b c : Nat) (w : World) (h1 : RowT w b v l) (h2 : RowT w c u l) (hl : l.length ≤ 70000) :
    Calls Tryd.prog 11 #[v, u] w fun e w' => e = .returned (.bool true) ∧ Below w.heap.size w w' := by
  obtain ⟨ad, cap, rfl, hcap, hat⟩ := h1.form
  obtain ⟨ad2, cap2, rfl, hcap2, hat2⟩ := h2.form
  have HA1 : Hid (0 < l.length → ∃ g, ad = some ⟨g, 0, none⟩ ∧ b ≤ g ∧ g < w.heap.size ∧ ∀ k (hk : k < l.length) j, j < 5 → w.cell? ⟨g, k * 5 + j, none⟩ = (encT (l[k]'hk))[j]?) := hat
  have HA2 : Hid (0 < l.length → ∃ g, ad2 = some ⟨g, 0, none⟩ ∧ c ≤ g ∧ g < w.heap.size ∧ ∀ k (hk : k < l.length) j, j < 5 → w.cell? ⟨g, k * 5 + j, none⟩ = (encT (l[k]'hk))[j]?) := hat2
  obtain ⟨n, hn⟩ : ∃ n, n = l.length := ⟨_, rfl⟩
  have HN : Hid (n = l.length) := hn
  rw [← hn] at hl hcap hcap2 ⊢
  clear h1 h2 hat hat2 hn
  go_enter Tryd.func11, Tryd.ntmps11
  go_wp2_with (fail)
  go_loopw [5] (fun iv wr => ∃ k : Nat, k ≤ n ∧ iv = .int .i64 (k : Int) ∧ Hid (Below w.heap.size w wr)) (fun iv _ => n - (intOf iv).toNat)
  case atStart => exact ⟨0, Nat.zero_le _, rfl, Below.refl _ _⟩
  case round =>
    obtain ⟨k, hkn, rfl, HBr⟩ := hrel
    by_cases hlt : k < n
    · have hk : k < l.length := by rw [← HN.out]; exact hlt
      obtain ⟨g, hg, _, hgl, cc1⟩ := HA1.out (by omega)
      obtain ⟨h, hh, _, hhl, cc2⟩ := HA2.out (by omega)
      subst hg hh
      obtain ⟨p, hp⟩ : ∃ p, p = l[k]'hk := ⟨_, rfl⟩
      have x0 : w.cell? ⟨g, k * 5, none⟩ = some (.int .i64 (p.k : Int)) := by rw [hp]; exact cc1 k hk 0 (by decide)
      have x1 : w.cell? ⟨g, k * 5 + 1, none⟩ = some (.string p.t) := by rw [hp]; exact cc1 k hk 1 (by decide)
      have x2 : w.cell? ⟨g, k * 5 + 2, none⟩ = some (.int .u32 (p.v : Int)) := by rw [hp]; exact cc1 k hk 2 (by decide)
      have x3 : w.cell? ⟨g, k * 5 + 3, none⟩ = some (.int .i64 (p.l : Int)) := by rw [hp]; exact cc1 k hk 3 (by decide)
      have x4 : w.cell? ⟨g, k * 5 + 4, none⟩ = some (.int .i64 (p.c : Int)) := by rw [hp]; exact cc1 k hk 4 (by decide)
      have y0 : w.cell? ⟨h, k * 5, none⟩ = some (.int .i64 (p.k : Int)) := by rw [hp]; exact cc2 k hk 0 (by decide)
      have y1 : w.cell? ⟨h, k * 5 + 1, none⟩ = some (.string p.t) := by rw [hp]; exact cc2 k hk 1 (by decide)
      have y2 : w.cell? ⟨h, k * 5 + 2, none⟩ = some (.int .u32 (p.v : Int)) := by rw [hp]; exact cc2 k hk 2 (by decide)
      have y3 : w.cell? ⟨h, k * 5 + 3, none⟩ = some (.int .i64 (p.l : Int)) := by rw [hp]; exact cc2 k hk 3 (by decide)
      have y4 : w.cell? ⟨h, k * 5 + 4, none⟩ = some (.int .i64 (p.c : Int)) := by rw [hp]; exact cc2 k hk 4 (by decide)
      have hne := neqT p
      have hlt' : (k : Int) < (n : Int) := by omega
      have hk0 : (0 : Int) ≤ (k : Int) := by omega
      clear hp cc1 cc2 hk HA1 HA2
      go_upto_region 6 with (fail)
      have kne : Nonempty (Kin wr) := ⟨⟨_, Below.refl _ _⟩⟩
      have kcx0 : ∀ z : Kin wr, z.val.cell? ⟨g, k * 5, none⟩ = some (.int .i64 (p.k : Int)) := fun z => cell_on1 z.is (cell_on1 HBr.out x0)
      have kcx1 : ∀ z : Kin wr, z.val.cell? ⟨g, k * 5 + 1, none⟩ = some (.string p.t) := fun z => cell_on1 z.is (cell_on1 HBr.out x1)
      have kcx2 : ∀ z : Kin wr, z.val.cell? ⟨g, k * 5 + 2, none⟩ = some (.int .u32 (p.v : Int)) := fun z => cell_on1 z.is (cell_on1 HBr.out x2)
      have kcx3 : ∀ z : Kin wr, z.val.cell? ⟨g, k * 5 + 3, none⟩ = some (.int .i64 (p.l : Int)) := fun z => cell_on1 z.is (cell_on1 HBr.out x3)
      have kcx4 : ∀ z : Kin wr, z.val.cell? ⟨g, k * 5 + 4, none⟩ = some (.int .i64 (p.c : Int)) := fun z => cell_on1 z.is (cell_on1 HBr.out x4)
      have kcy0 : ∀ z : Kin wr, z.val.cell? ⟨h, k * 5, none⟩ = some (.int .i64 (p.k : Int)) := fun z => cell_on1 z.is (cell_on1 HBr.out y0)
      have kcy1 : ∀ z : Kin wr, z.val.cell? ⟨h, k * 5 + 1, none⟩ = some (.string p.t) := fun z => cell_on1 z.is (cell_on1 HBr.out y1)
      have kcy2 : ∀ z : Kin wr, z.val.cell? ⟨h, k * 5 + 2, none⟩ = some (.int .u32 (p.v : Int)) := fun z => cell_on1 z.is (cell_on1 HBr.out y2)
      have kcy3 : ∀ z : Kin wr, z.val.cell? ⟨h, k * 5 + 3, none⟩ = some (.int .i64 (p.l : Int)) := fun z => cell_on1 z.is (cell_on1 HBr.out y3)
      have kcy4 : ∀ z : Kin wr, z.val.cell? ⟨h, k * 5 + 4, none⟩ = some (.int .i64 (p.c : Int)) := fun z => cell_on1 z.is (cell_on1 HBr.out y4)
      refine wp_region_kin wr (Below.refl _ _) (by kernel_rfl) (by kernel_rfl) ?_
      repeat (go_big_quiet_step (fail))
      refine wpQuiet_nil ?_
      rintro wq ⟨⟨xq, hxq⟩, hyq⟩
      have hq : Below wr.heap.size wr wq := by rw [hyq]; exact hxq
      clear hyq hxq xq kne kcx0 kcx1 kcx2 kcx3 kcx4 kcy0 kcy1 kcy2 kcy3 kcy4
      have HBq : Hid (Below w.heap.size w wq) := HBr.out.trans (hq.mono HBr.out.size)
      clear hq
      go_wp2_with (fail)
      go_roundw
      case rel => exact ⟨k + 1, by omega, by go_num, HBq.out⟩
      case measure => simp [intOf]; omega
    · obtain rfl : k = n := by omega
      have hlt' : ¬ (k : Int) < (k : Int) := by omega
      go_wp2_with (fail)
      go_ret
      exact ⟨rfl, HBr.out⟩
end Go.Proofs.YtpbbeemlaigimaaDoor
