/-
  PkBF: BxH CtJ, one behind the other (tools/pack.py).
-/
import Derived.Test.YtgokmkholjfhbaaGreatPkBE
import Derived.Test.YtgokmkholjfhbaaGreatPkAN
import Derived.Test.YtgokmkholjfhbaaGreatPkAE
import Derived.Test.YtgokmkholjfhbaaGreatPkBA
import Derived.Deep.QuietTactic
import Derived.BigQuiet
set_option linter.unusedVariables false
set_option linter.unusedSimpArgs false
namespace Go.Proofs.YtgokmkholjfhbaaGreat.Xb
open Go.RowKit
set_option maxRecDepth 20000 in
set_option maxHeartbeats 2000000 in
theorem hasXC : HasC := by
 intro X h w b o
 have hC := fun W => checkC X W b
 have hB := fun W => bringX X h W b o
 cases ho : okX X
 ·have hn : ¬ chkX X = 0 := fun e => by rw [chkX_ok, ho] at e; cases e
  rw [show hasH X h = false by unfold hasH hasX; rw [ho]; rfl]
  generalize chkX X = cc at *
  have hd : decide (cc = 0) = false := decide_eq_false hn
  have hb0 : (cc == 0) = false := by simpa using hn
  clear ho b o hB
  go_enter Tryz.func36, Tryz.ntmps36
  go_wp2_with (fail)
  have kne : Nonempty (Kin ((w.alloc (.cells #[.int .u32 X.a.1, .int .u32 X.a.2, .int .u32 X.b.1, .int .u32 X.b.2, .int .u16 X.c.1, .int .u16 X.c.2, .int .u16 X.d.1, .int .u16 X.d.2, .int .u8 X.m.1, .int .u8 X.m.2] 74)).alloc (.cells #[.int .u32 h.s, .int .u32 h.d, .int .u16 h.p, .int .u16 h.q, .int .u8 h.r] 28))) := ⟨⟨_, Below.refl _ _⟩⟩
  have kc0 : ∀ y : Kin ((w.alloc (.cells #[.int .u32 X.a.1, .int .u32 X.a.2, .int .u32 X.b.1, .int .u32 X.b.2, .int .u16 X.c.1, .int .u16 X.c.2, .int .u16 X.d.1, .int .u16 X.d.2, .int .u8 X.m.1, .int .u8 X.m.2] 74)).alloc (.cells #[.int .u32 h.s, .int .u32 h.d, .int .u16 h.p, .int .u16 h.q, .int .u8 h.r] 28)), y.val.cell? ⟨w.heap.size, 0, none⟩ = some (.int .u32 X.a.1) := kcL
  have kc1 : ∀ y : Kin ((w.alloc (.cells #[.int .u32 X.a.1, .int .u32 X.a.2, .int .u32 X.b.1, .int .u32 X.b.2, .int .u16 X.c.1, .int .u16 X.c.2, .int .u16 X.d.1, .int .u16 X.d.2, .int .u8 X.m.1, .int .u8 X.m.2] 74)).alloc (.cells #[.int .u32 h.s, .int .u32 h.d, .int .u16 h.p, .int .u16 h.q, .int .u8 h.r] 28)), y.val.cell? ⟨w.heap.size, 1, none⟩ = some (.int .u32 X.a.2) := kcL
  have kc2 : ∀ y : Kin ((w.alloc (.cells #[.int .u32 X.a.1, .int .u32 X.a.2, .int .u32 X.b.1, .int .u32 X.b.2, .int .u16 X.c.1, .int .u16 X.c.2, .int .u16 X.d.1, .int .u16 X.d.2, .int .u8 X.m.1, .int .u8 X.m.2] 74)).alloc (.cells #[.int .u32 h.s, .int .u32 h.d, .int .u16 h.p, .int .u16 h.q, .int .u8 h.r] 28)), y.val.cell? ⟨w.heap.size, 2, none⟩ = some (.int .u32 X.b.1) := kcL
  have kc3 : ∀ y : Kin ((w.alloc (.cells #[.int .u32 X.a.1, .int .u32 X.a.2, .int .u32 X.b.1, .int .u32 X.b.2, .int .u16 X.c.1, .int .u16 X.c.2, .int .u16 X.d.1, .int .u16 X.d.2, .int .u8 X.m.1, .int .u8 X.m.2] 74)).alloc (.cells #[.int .u32 h.s, .int .u32 h.d, .int .u16 h.p, .int .u16 h.q, .int .u8 h.r] 28)), y.val.cell? ⟨w.heap.size, 3, none⟩ = some (.int .u32 X.b.2) := kcL
  have kc4 : ∀ y : Kin ((w.alloc (.cells #[.int .u32 X.a.1, .int .u32 X.a.2, .int .u32 X.b.1, .int .u32 X.b.2, .int .u16 X.c.1, .int .u16 X.c.2, .int .u16 X.d.1, .int .u16 X.d.2, .int .u8 X.m.1, .int .u8 X.m.2] 74)).alloc (.cells #[.int .u32 h.s, .int .u32 h.d, .int .u16 h.p, .int .u16 h.q, .int .u8 h.r] 28)), y.val.cell? ⟨w.heap.size, 4, none⟩ = some (.int .u16 X.c.1) := kcL
  have kc5 : ∀ y : Kin ((w.alloc (.cells #[.int .u32 X.a.1, .int .u32 X.a.2, .int .u32 X.b.1, .int .u32 X.b.2, .int .u16 X.c.1, .int .u16 X.c.2, .int .u16 X.d.1, .int .u16 X.d.2, .int .u8 X.m.1, .int .u8 X.m.2] 74)).alloc (.cells #[.int .u32 h.s, .int .u32 h.d, .int .u16 h.p, .int .u16 h.q, .int .u8 h.r] 28)), y.val.cell? ⟨w.heap.size, 5, none⟩ = some (.int .u16 X.c.2) := kcL
  have kc6 : ∀ y : Kin ((w.alloc (.cells #[.int .u32 X.a.1, .int .u32 X.a.2, .int .u32 X.b.1, .int .u32 X.b.2, .int .u16 X.c.1, .int .u16 X.c.2, .int .u16 X.d.1, .int .u16 X.d.2, .int .u8 X.m.1, .int .u8 X.m.2] 74)).alloc (.cells #[.int .u32 h.s, .int .u32 h.d, .int .u16 h.p, .int .u16 h.q, .int .u8 h.r] 28)), y.val.cell? ⟨w.heap.size, 6, none⟩ = some (.int .u16 X.d.1) := kcL
  have kc7 : ∀ y : Kin ((w.alloc (.cells #[.int .u32 X.a.1, .int .u32 X.a.2, .int .u32 X.b.1, .int .u32 X.b.2, .int .u16 X.c.1, .int .u16 X.c.2, .int .u16 X.d.1, .int .u16 X.d.2, .int .u8 X.m.1, .int .u8 X.m.2] 74)).alloc (.cells #[.int .u32 h.s, .int .u32 h.d, .int .u16 h.p, .int .u16 h.q, .int .u8 h.r] 28)), y.val.cell? ⟨w.heap.size, 7, none⟩ = some (.int .u16 X.d.2) := kcL
  have kc8 : ∀ y : Kin ((w.alloc (.cells #[.int .u32 X.a.1, .int .u32 X.a.2, .int .u32 X.b.1, .int .u32 X.b.2, .int .u16 X.c.1, .int .u16 X.c.2, .int .u16 X.d.1, .int .u16 X.d.2, .int .u8 X.m.1, .int .u8 X.m.2] 74)).alloc (.cells #[.int .u32 h.s, .int .u32 h.d, .int .u16 h.p, .int .u16 h.q, .int .u8 h.r] 28)), y.val.cell? ⟨w.heap.size, 8, none⟩ = some (.int .u8 X.m.1) := kcL
  have kc9 : ∀ y : Kin ((w.alloc (.cells #[.int .u32 X.a.1, .int .u32 X.a.2, .int .u32 X.b.1, .int .u32 X.b.2, .int .u16 X.c.1, .int .u16 X.c.2, .int .u16 X.d.1, .int .u16 X.d.2, .int .u8 X.m.1, .int .u8 X.m.2] 74)).alloc (.cells #[.int .u32 h.s, .int .u32 h.d, .int .u16 h.p, .int .u16 h.q, .int .u8 h.r] 28)), y.val.cell? ⟨w.heap.size, 9, none⟩ = some (.int .u8 X.m.2) := kcL
  have kc10 : ∀ y : Kin ((w.alloc (.cells #[.int .u32 X.a.1, .int .u32 X.a.2, .int .u32 X.b.1, .int .u32 X.b.2, .int .u16 X.c.1, .int .u16 X.c.2, .int .u16 X.d.1, .int .u16 X.d.2, .int .u8 X.m.1, .int .u8 X.m.2] 74)).alloc (.cells #[.int .u32 h.s, .int .u32 h.d, .int .u16 h.p, .int .u16 h.q, .int .u8 h.r] 28)), y.val.cell? ⟨w.heap.size + 1, 0, none⟩ = some (.int .u32 h.s) := kcL
  have kc11 : ∀ y : Kin ((w.alloc (.cells #[.int .u32 X.a.1, .int .u32 X.a.2, .int .u32 X.b.1, .int .u32 X.b.2, .int .u16 X.c.1, .int .u16 X.c.2, .int .u16 X.d.1, .int .u16 X.d.2, .int .u8 X.m.1, .int .u8 X.m.2] 74)).alloc (.cells #[.int .u32 h.s, .int .u32 h.d, .int .u16 h.p, .int .u16 h.q, .int .u8 h.r] 28)), y.val.cell? ⟨w.heap.size + 1, 1, none⟩ = some (.int .u32 h.d) := kcL
  have kc12 : ∀ y : Kin ((w.alloc (.cells #[.int .u32 X.a.1, .int .u32 X.a.2, .int .u32 X.b.1, .int .u32 X.b.2, .int .u16 X.c.1, .int .u16 X.c.2, .int .u16 X.d.1, .int .u16 X.d.2, .int .u8 X.m.1, .int .u8 X.m.2] 74)).alloc (.cells #[.int .u32 h.s, .int .u32 h.d, .int .u16 h.p, .int .u16 h.q, .int .u8 h.r] 28)), y.val.cell? ⟨w.heap.size + 1, 2, none⟩ = some (.int .u16 h.p) := kcL
  have kc13 : ∀ y : Kin ((w.alloc (.cells #[.int .u32 X.a.1, .int .u32 X.a.2, .int .u32 X.b.1, .int .u32 X.b.2, .int .u16 X.c.1, .int .u16 X.c.2, .int .u16 X.d.1, .int .u16 X.d.2, .int .u8 X.m.1, .int .u8 X.m.2] 74)).alloc (.cells #[.int .u32 h.s, .int .u32 h.d, .int .u16 h.p, .int .u16 h.q, .int .u8 h.r] 28)), y.val.cell? ⟨w.heap.size + 1, 3, none⟩ = some (.int .u16 h.q) := kcL
  have kc14 : ∀ y : Kin ((w.alloc (.cells #[.int .u32 X.a.1, .int .u32 X.a.2, .int .u32 X.b.1, .int .u32 X.b.2, .int .u16 X.c.1, .int .u16 X.c.2, .int .u16 X.d.1, .int .u16 X.d.2, .int .u8 X.m.1, .int .u8 X.m.2] 74)).alloc (.cells #[.int .u32 h.s, .int .u32 h.d, .int .u16 h.p, .int .u16 h.q, .int .u8 h.r] 28)), y.val.cell? ⟨w.heap.size + 1, 4, none⟩ = some (.int .u8 h.r) := kcL
  refine wp_region_kin ((w.alloc (.cells #[.int .u32 X.a.1, .int .u32 X.a.2, .int .u32 X.b.1, .int .u32 X.b.2, .int .u16 X.c.1, .int .u16 X.c.2, .int .u16 X.d.1, .int .u16 X.d.2, .int .u8 X.m.1, .int .u8 X.m.2] 74)).alloc (.cells #[.int .u32 h.s, .int .u32 h.d, .int .u16 h.p, .int .u16 h.q, .int .u8 h.r] 28)) (Below.refl _ _) (by kernel_rfl) (by kernel_rfl) ?_
  repeat (go_big_quiet_step ((go_at_call 49; exact kin_call (hC _))))
  refine wpQuiet_nil ?_
  rintro wq ⟨⟨xq, hxq⟩, hyq⟩
  have hq : Below ((w.alloc (.cells #[.int .u32 X.a.1, .int .u32 X.a.2, .int .u32 X.b.1, .int .u32 X.b.2, .int .u16 X.c.1, .int .u16 X.c.2, .int .u16 X.d.1, .int .u16 X.d.2, .int .u8 X.m.1, .int .u8 X.m.2] 74)).alloc (.cells #[.int .u32 h.s, .int .u32 h.d, .int .u16 h.p, .int .u16 h.q, .int .u8 h.r] 28)).heap.size ((w.alloc (.cells #[.int .u32 X.a.1, .int .u32 X.a.2, .int .u32 X.b.1, .int .u32 X.b.2, .int .u16 X.c.1, .int .u16 X.c.2, .int .u16 X.d.1, .int .u16 X.d.2, .int .u8 X.m.1, .int .u8 X.m.2] 74)).alloc (.cells #[.int .u32 h.s, .int .u32 h.d, .int .u16 h.p, .int .u16 h.q, .int .u8 h.r] 28)) wq := by rw [hyq]; exact hxq
  clear hyq hxq xq
  clear kne kc0 kc1 kc2 kc3 kc4 kc5 kc6 kc7 kc8 kc9 kc10 kc11 kc12 kc13 kc14
  obtain ⟨hcq, hfq⟩ := bcell hq
  have hzq := hq.size
  try simp at hzq
  go_wp2
  go_ret
  exact ⟨rfl, bel_of (belA) hq⟩
 ·rw [chkX_ok.2 ho] at hC
  have he := fun W => eqH_any (brX X h) h W
  rw [brX_self b ho o] at he
  generalize brX X h = g at *
  generalize hasH X h = r at *
  clear ho b o
  go_enter Tryz.func36, Tryz.ntmps36
  go_wp2_with (fail)
  have kne : Nonempty (Kin ((w.alloc (.cells #[.int .u32 X.a.1, .int .u32 X.a.2, .int .u32 X.b.1, .int .u32 X.b.2, .int .u16 X.c.1, .int .u16 X.c.2, .int .u16 X.d.1, .int .u16 X.d.2, .int .u8 X.m.1, .int .u8 X.m.2] 74)).alloc (.cells #[.int .u32 h.s, .int .u32 h.d, .int .u16 h.p, .int .u16 h.q, .int .u8 h.r] 28))) := ⟨⟨_, Below.refl _ _⟩⟩
  have kc0 : ∀ y : Kin ((w.alloc (.cells #[.int .u32 X.a.1, .int .u32 X.a.2, .int .u32 X.b.1, .int .u32 X.b.2, .int .u16 X.c.1, .int .u16 X.c.2, .int .u16 X.d.1, .int .u16 X.d.2, .int .u8 X.m.1, .int .u8 X.m.2] 74)).alloc (.cells #[.int .u32 h.s, .int .u32 h.d, .int .u16 h.p, .int .u16 h.q, .int .u8 h.r] 28)), y.val.cell? ⟨w.heap.size, 0, none⟩ = some (.int .u32 X.a.1) := kcL
  have kc1 : ∀ y : Kin ((w.alloc (.cells #[.int .u32 X.a.1, .int .u32 X.a.2, .int .u32 X.b.1, .int .u32 X.b.2, .int .u16 X.c.1, .int .u16 X.c.2, .int .u16 X.d.1, .int .u16 X.d.2, .int .u8 X.m.1, .int .u8 X.m.2] 74)).alloc (.cells #[.int .u32 h.s, .int .u32 h.d, .int .u16 h.p, .int .u16 h.q, .int .u8 h.r] 28)), y.val.cell? ⟨w.heap.size, 1, none⟩ = some (.int .u32 X.a.2) := kcL
  have kc2 : ∀ y : Kin ((w.alloc (.cells #[.int .u32 X.a.1, .int .u32 X.a.2, .int .u32 X.b.1, .int .u32 X.b.2, .int .u16 X.c.1, .int .u16 X.c.2, .int .u16 X.d.1, .int .u16 X.d.2, .int .u8 X.m.1, .int .u8 X.m.2] 74)).alloc (.cells #[.int .u32 h.s, .int .u32 h.d, .int .u16 h.p, .int .u16 h.q, .int .u8 h.r] 28)), y.val.cell? ⟨w.heap.size, 2, none⟩ = some (.int .u32 X.b.1) := kcL
  have kc3 : ∀ y : Kin ((w.alloc (.cells #[.int .u32 X.a.1, .int .u32 X.a.2, .int .u32 X.b.1, .int .u32 X.b.2, .int .u16 X.c.1, .int .u16 X.c.2, .int .u16 X.d.1, .int .u16 X.d.2, .int .u8 X.m.1, .int .u8 X.m.2] 74)).alloc (.cells #[.int .u32 h.s, .int .u32 h.d, .int .u16 h.p, .int .u16 h.q, .int .u8 h.r] 28)), y.val.cell? ⟨w.heap.size, 3, none⟩ = some (.int .u32 X.b.2) := kcL
  have kc4 : ∀ y : Kin ((w.alloc (.cells #[.int .u32 X.a.1, .int .u32 X.a.2, .int .u32 X.b.1, .int .u32 X.b.2, .int .u16 X.c.1, .int .u16 X.c.2, .int .u16 X.d.1, .int .u16 X.d.2, .int .u8 X.m.1, .int .u8 X.m.2] 74)).alloc (.cells #[.int .u32 h.s, .int .u32 h.d, .int .u16 h.p, .int .u16 h.q, .int .u8 h.r] 28)), y.val.cell? ⟨w.heap.size, 4, none⟩ = some (.int .u16 X.c.1) := kcL
  have kc5 : ∀ y : Kin ((w.alloc (.cells #[.int .u32 X.a.1, .int .u32 X.a.2, .int .u32 X.b.1, .int .u32 X.b.2, .int .u16 X.c.1, .int .u16 X.c.2, .int .u16 X.d.1, .int .u16 X.d.2, .int .u8 X.m.1, .int .u8 X.m.2] 74)).alloc (.cells #[.int .u32 h.s, .int .u32 h.d, .int .u16 h.p, .int .u16 h.q, .int .u8 h.r] 28)), y.val.cell? ⟨w.heap.size, 5, none⟩ = some (.int .u16 X.c.2) := kcL
  have kc6 : ∀ y : Kin ((w.alloc (.cells #[.int .u32 X.a.1, .int .u32 X.a.2, .int .u32 X.b.1, .int .u32 X.b.2, .int .u16 X.c.1, .int .u16 X.c.2, .int .u16 X.d.1, .int .u16 X.d.2, .int .u8 X.m.1, .int .u8 X.m.2] 74)).alloc (.cells #[.int .u32 h.s, .int .u32 h.d, .int .u16 h.p, .int .u16 h.q, .int .u8 h.r] 28)), y.val.cell? ⟨w.heap.size, 6, none⟩ = some (.int .u16 X.d.1) := kcL
  have kc7 : ∀ y : Kin ((w.alloc (.cells #[.int .u32 X.a.1, .int .u32 X.a.2, .int .u32 X.b.1, .int .u32 X.b.2, .int .u16 X.c.1, .int .u16 X.c.2, .int .u16 X.d.1, .int .u16 X.d.2, .int .u8 X.m.1, .int .u8 X.m.2] 74)).alloc (.cells #[.int .u32 h.s, .int .u32 h.d, .int .u16 h.p, .int .u16 h.q, .int .u8 h.r] 28)), y.val.cell? ⟨w.heap.size, 7, none⟩ = some (.int .u16 X.d.2) := kcL
  have kc8 : ∀ y : Kin ((w.alloc (.cells #[.int .u32 X.a.1, .int .u32 X.a.2, .int .u32 X.b.1, .int .u32 X.b.2, .int .u16 X.c.1, .int .u16 X.c.2, .int .u16 X.d.1, .int .u16 X.d.2, .int .u8 X.m.1, .int .u8 X.m.2] 74)).alloc (.cells #[.int .u32 h.s, .int .u32 h.d, .int .u16 h.p, .int .u16 h.q, .int .u8 h.r] 28)), y.val.cell? ⟨w.heap.size, 8, none⟩ = some (.int .u8 X.m.1) := kcL
  have kc9 : ∀ y : Kin ((w.alloc (.cells #[.int .u32 X.a.1, .int .u32 X.a.2, .int .u32 X.b.1, .int .u32 X.b.2, .int .u16 X.c.1, .int .u16 X.c.2, .int .u16 X.d.1, .int .u16 X.d.2, .int .u8 X.m.1, .int .u8 X.m.2] 74)).alloc (.cells #[.int .u32 h.s, .int .u32 h.d, .int .u16 h.p, .int .u16 h.q, .int .u8 h.r] 28)), y.val.cell? ⟨w.heap.size, 9, none⟩ = some (.int .u8 X.m.2) := kcL
  have kc10 : ∀ y : Kin ((w.alloc (.cells #[.int .u32 X.a.1, .int .u32 X.a.2, .int .u32 X.b.1, .int .u32 X.b.2, .int .u16 X.c.1, .int .u16 X.c.2, .int .u16 X.d.1, .int .u16 X.d.2, .int .u8 X.m.1, .int .u8 X.m.2] 74)).alloc (.cells #[.int .u32 h.s, .int .u32 h.d, .int .u16 h.p, .int .u16 h.q, .int .u8 h.r] 28)), y.val.cell? ⟨w.heap.size + 1, 0, none⟩ = some (.int .u32 h.s) := kcL
  have kc11 : ∀ y : Kin ((w.alloc (.cells #[.int .u32 X.a.1, .int .u32 X.a.2, .int .u32 X.b.1, .int .u32 X.b.2, .int .u16 X.c.1, .int .u16 X.c.2, .int .u16 X.d.1, .int .u16 X.d.2, .int .u8 X.m.1, .int .u8 X.m.2] 74)).alloc (.cells #[.int .u32 h.s, .int .u32 h.d, .int .u16 h.p, .int .u16 h.q, .int .u8 h.r] 28)), y.val.cell? ⟨w.heap.size + 1, 1, none⟩ = some (.int .u32 h.d) := kcL
  have kc12 : ∀ y : Kin ((w.alloc (.cells #[.int .u32 X.a.1, .int .u32 X.a.2, .int .u32 X.b.1, .int .u32 X.b.2, .int .u16 X.c.1, .int .u16 X.c.2, .int .u16 X.d.1, .int .u16 X.d.2, .int .u8 X.m.1, .int .u8 X.m.2] 74)).alloc (.cells #[.int .u32 h.s, .int .u32 h.d, .int .u16 h.p, .int .u16 h.q, .int .u8 h.r] 28)), y.val.cell? ⟨w.heap.size + 1, 2, none⟩ = some (.int .u16 h.p) := kcL
  have kc13 : ∀ y : Kin ((w.alloc (.cells #[.int .u32 X.a.1, .int .u32 X.a.2, .int .u32 X.b.1, .int .u32 X.b.2, .int .u16 X.c.1, .int .u16 X.c.2, .int .u16 X.d.1, .int .u16 X.d.2, .int .u8 X.m.1, .int .u8 X.m.2] 74)).alloc (.cells #[.int .u32 h.s, .int .u32 h.d, .int .u16 h.p, .int .u16 h.q, .int .u8 h.r] 28)), y.val.cell? ⟨w.heap.size + 1, 3, none⟩ = some (.int .u16 h.q) := kcL
  have kc14 : ∀ y : Kin ((w.alloc (.cells #[.int .u32 X.a.1, .int .u32 X.a.2, .int .u32 X.b.1, .int .u32 X.b.2, .int .u16 X.c.1, .int .u16 X.c.2, .int .u16 X.d.1, .int .u16 X.d.2, .int .u8 X.m.1, .int .u8 X.m.2] 74)).alloc (.cells #[.int .u32 h.s, .int .u32 h.d, .int .u16 h.p, .int .u16 h.q, .int .u8 h.r] 28)), y.val.cell? ⟨w.heap.size + 1, 4, none⟩ = some (.int .u8 h.r) := kcL
  refine wp_region_kin ((w.alloc (.cells #[.int .u32 X.a.1, .int .u32 X.a.2, .int .u32 X.b.1, .int .u32 X.b.2, .int .u16 X.c.1, .int .u16 X.c.2, .int .u16 X.d.1, .int .u16 X.d.2, .int .u8 X.m.1, .int .u8 X.m.2] 74)).alloc (.cells #[.int .u32 h.s, .int .u32 h.d, .int .u16 h.p, .int .u16 h.q, .int .u8 h.r] 28)) (Below.refl _ _) (by kernel_rfl) (by kernel_rfl) ?_
  repeat (go_big_quiet_step (first | (go_at_call 49; exact kin_call (hC _)) | (go_at_call 50; exact kin_call (hB _))))
  refine wpQuiet_nil ?_
  rintro wq ⟨⟨xq, hxq⟩, hyq⟩
  have hq : Below ((w.alloc (.cells #[.int .u32 X.a.1, .int .u32 X.a.2, .int .u32 X.b.1, .int .u32 X.b.2, .int .u16 X.c.1, .int .u16 X.c.2, .int .u16 X.d.1, .int .u16 X.d.2, .int .u8 X.m.1, .int .u8 X.m.2] 74)).alloc (.cells #[.int .u32 h.s, .int .u32 h.d, .int .u16 h.p, .int .u16 h.q, .int .u8 h.r] 28)).heap.size ((w.alloc (.cells #[.int .u32 X.a.1, .int .u32 X.a.2, .int .u32 X.b.1, .int .u32 X.b.2, .int .u16 X.c.1, .int .u16 X.c.2, .int .u16 X.d.1, .int .u16 X.d.2, .int .u8 X.m.1, .int .u8 X.m.2] 74)).alloc (.cells #[.int .u32 h.s, .int .u32 h.d, .int .u16 h.p, .int .u16 h.q, .int .u8 h.r] 28)) wq := by rw [hyq]; exact hxq
  clear hyq hxq xq
  clear kne kc0 kc1 kc2 kc3 kc4 kc5 kc6 kc7 kc8 kc9 kc10 kc11 kc12 kc13 kc14
  obtain ⟨hcq, hfq⟩ := bcell hq
  have hzq := hq.size
  try simp at hzq
  go_wp2
  go_ret
  exact ⟨rfl, bel_of (belA) hq⟩
end Go.Proofs.YtgokmkholjfhbaaGreat.Xb
namespace Go.Proofs.YtgokmkholjfhbaaGreat
open Go.RowKit
def LfV (bn : Nat) (h : Hd) (W : World) (b : Nat) : Nat → Part → Nv → Value → Prop
 | 0, P, q, v => v = .slice q.ad q.n q.cap
 | d + 1, P, q, v => if P.2.length ≤ bn then v = .slice q.ad q.n q.cap else
  ∃ (K : Nat) (q1 q2 : Nv), q.k = some ⟨K, 0, none⟩ ∧ W.heap[K]? = some (.cells #[.int .u32 q1.x.a.1, .int .u32 q1.x.a.2, .int .u32 q1.x.b.1, .int .u32 q1.x.b.2, .int .u16 q1.x.c.1, .int .u16 q1.x.c.2, .int .u16 q1.x.d.1, .int .u16 q1.x.d.2, .int .u8 q1.x.m.1, .int .u8 q1.x.m.2, .pointer q1.k, .slice q1.ad q1.n q1.cap, .int .u32 q2.x.a.1, .int .u32 q2.x.a.2, .int .u32 q2.x.b.1, .int .u32 q2.x.b.2, .int .u16 q2.x.c.1, .int .u16 q2.x.c.2, .int .u16 q2.x.d.1, .int .u16 q2.x.d.2, .int .u8 q2.x.m.1, .int .u8 q2.x.m.2, .pointer q2.k, .slice q2.ad q2.n q2.cap] 111) ∧ Nd bn W b d (bestP P).1 q1 ∧ Nd bn W b d (bestP P).2 q2 ∧ (if hasY (bestP P).1.1 h then LfV bn h W b d (bestP P).1 q1 v else LfV bn h W b d (bestP P).2 q2 v)
theorem LfV.on {bn : Nat} {h : Hd} {W W1 : World} {b : Nat} (hb : Below W.heap.size W W1) : ∀ {d : Nat} {P : Part} {q : Nv} {v : Value}, LfV bn h W b d P q v → LfV bn h W1 b d P q v
 | 0, P, q, v, k => k
 | d + 1, P, q, v, k => by
  unfold LfV at k ⊢
  split at k
  ·rename_i e; rw [if_pos e]; exact k
  ·rename_i e
   rw [if_neg e]
   obtain ⟨K, q1, q2, k1, k2, k3, k4, k5⟩ := k
   refine ⟨K, q1, q2, k1, blk_on k2 hb, k3.on hb, k4.on hb, ?_⟩
   split at k5
   ·rename_i e2; rw [if_pos e2]; exact LfV.on hb k5
   ·rename_i e2; rw [if_neg e2]; exact LfV.on hb k5
theorem nd_lf {bn : Nat} {h : Hd} {W : World} {b : Nat} : ∀ {d : Nat} {P : Part} {q : Nv}, Nd bn W b d P q → ∃ v, LfV bn h W b d P q v ∧ RowI W b v (ofN (fndT bn h d P).1)
 | 0, P, q, k => ⟨_, rfl, k.2.2⟩
 | d + 1, P, q, k => by
  unfold Nd at k
  unfold LfV fndT
  split at k
  ·rename_i e
   simp only [if_pos e]
   exact ⟨_, rfl, k.2.2⟩
  ·rename_i e
   simp only [if_neg e]
   obtain ⟨h1, h2, h3, h4, K, q1, q2, h5, h6, h7, h8, h9⟩ := k
   by_cases e2 : hasY (bestP P).1.1 h = true
   ·obtain ⟨v, v1, v2⟩ := nd_lf (h := h) h8
    refine ⟨v, ⟨K, q1, q2, h5, h7, h8, h9, ?_⟩, ?_⟩
    ·rw [if_pos e2]; exact v1
    ·rw [if_pos e2]; exact v2
   ·obtain ⟨v, v1, v2⟩ := nd_lf (h := h) h9
    refine ⟨v, ⟨K, q1, q2, h5, h7, h8, h9, ?_⟩, ?_⟩
    ·rw [if_neg e2]; exact v1
    ·rw [if_neg e2]; exact v2
theorem lf_step {bn : Nat} {h : Hd} {W : World} {b d : Nat} {P : Part} {q : Nv} {v : Value} (k : Nd bn W b d P q) (kv : LfV bn h W b d P q v) : (q.k = none ∧ v = .slice q.ad q.n q.cap ∧ (fndT bn h d P).2 = 0) ∨
  (∃ (d' K : Nat) (q1 q2 : Nv), d = d' + 1 ∧ q.x = (bestP P).1.1 ∧ q.k = some ⟨K, 0, none⟩ ∧ W.heap[K]? = some (.cells #[.int .u32 q1.x.a.1, .int .u32 q1.x.a.2, .int .u32 q1.x.b.1, .int .u32 q1.x.b.2, .int .u16 q1.x.c.1, .int .u16 q1.x.c.2, .int .u16 q1.x.d.1, .int .u16 q1.x.d.2, .int .u8 q1.x.m.1, .int .u8 q1.x.m.2, .pointer q1.k, .slice q1.ad q1.n q1.cap, .int .u32 q2.x.a.1, .int .u32 q2.x.a.2, .int .u32 q2.x.b.1, .int .u32 q2.x.b.2, .int .u16 q2.x.c.1, .int .u16 q2.x.c.2, .int .u16 q2.x.d.1, .int .u16 q2.x.d.2, .int .u8 q2.x.m.1, .int .u8 q2.x.m.2, .pointer q2.k, .slice q2.ad q2.n q2.cap] 111) ∧ ((hasY (bestP P).1.1 h = true ∧ Nd bn W b d' (bestP P).1 q1 ∧ LfV bn h W b d' (bestP P).1 q1 v ∧ (fndT bn h d P).2 = (fndT bn h d' (bestP P).1).2 + 1) ∨ (hasY (bestP P).1.1 h = false ∧ Nd bn W b d' (bestP P).2 q2 ∧ LfV bn h W b d' (bestP P).2 q2 v ∧ (fndT bn h d P).2 = (fndT bn h d' (bestP P).2).2 + 1))) := by
 cases d with
 | zero => exact .inl ⟨k.2.1, kv, rfl⟩
 | succ d =>
  unfold Nd at k
  unfold LfV at kv
  by_cases e : P.2.length ≤ bn
  ·rw [if_pos e] at k kv
   exact .inl ⟨k.2.1, kv, by unfold fndT; rw [if_pos e]⟩
  ·rw [if_neg e] at k kv
   obtain ⟨h1, _⟩ := k
   obtain ⟨K, q1, q2, k1, k2, k3, k4, k5⟩ := kv
   refine .inr ⟨d, K, q1, q2, rfl, h1, k1, k2, ?_⟩
   cases e2 : hasY (bestP P).1.1 h
   ·rw [e2] at k5
    exact .inr ⟨rfl, k4, k5, by conv => lhs; unfold fndT; rw [if_neg e, e2]; simp⟩
   ·rw [e2] at k5
    exact .inl ⟨rfl, k3, k5, by conv => lhs; unfold fndT; rw [if_neg e, e2]; simp⟩
set_option maxRecDepth 20000 in
set_option maxHeartbeats 1000000 in
theorem findNC (bn : Nat) (l : List Ru) (h : Hd) (oh : OkH h) (d : Nat) (P : Part) (q : Nv) (b B o : Nat) (v : Value) (w : World) (hd : d ≤ 32) (hN : Nd bn w b d P q) (hr : w.rangeAt B o (#[.int .u32 q.x.a.1, .int .u32 q.x.a.2, .int .u32 q.x.b.1, .int .u32 q.x.b.2, .int .u16 q.x.c.1, .int .u16 q.x.c.2, .int .u16 q.x.d.1, .int .u16 q.x.d.2, .int .u8 q.x.m.1, .int .u8 q.x.m.2, .pointer q.k, .slice q.ad q.n q.cap] : Array Value).toList) (hv : LfV bn h w b d P q v) (ok : CtOk l d P) (hh : hasY P.1 h = true) :
  Calls Tryz.prog 19 #[.pointer (some ⟨B, o, none⟩), .agg #[.int .u32 h.s, .int .u32 h.d, .int .u16 h.p, .int .u16 h.q, .int .u8 h.r]] w fun e w' => e = .returned (.tuple #[v, .int .i64 ((fndT bn h d P).2 : Nat)]) ∧ Below w.heap.size w w' := by
 have HOh : Hid (OkH h) := oh
 have hb0 : Below w.heap.size w (w.alloc (.cells #[.int .u32 h.s, .int .u32 h.d, .int .u16 h.p, .int .u16 h.q, .int .u8 h.r] 28)) := (Below.refl _ _).alloc (Nat.le_refl _) _
 have HB0 : Hid (Below w.heap.size w (w.alloc (.cells #[.int .u32 h.s, .int .u32 h.d, .int .u16 h.p, .int .u16 h.q, .int .u8 h.r] 28))) := hb0
 have HN0 : Hid (Nd bn (w.alloc (.cells #[.int .u32 h.s, .int .u32 h.d, .int .u16 h.p, .int .u16 h.q, .int .u8 h.r] 28)) b d P q) := hN.on hb0
 have HR0 : Hid ((w.alloc (.cells #[.int .u32 h.s, .int .u32 h.d, .int .u16 h.p, .int .u16 h.q, .int .u8 h.r] 28)).rangeAt B o (#[.int .u32 q.x.a.1, .int .u32 q.x.a.2, .int .u32 q.x.b.1, .int .u32 q.x.b.2, .int .u16 q.x.c.1, .int .u16 q.x.c.2, .int .u16 q.x.d.1, .int .u16 q.x.d.2, .int .u8 q.x.m.1, .int .u8 q.x.m.2, .pointer q.k, .slice q.ad q.n q.cap] : Array Value).toList) := rng_on hb0 hr
 have HV0 : Hid (LfV bn h (w.alloc (.cells #[.int .u32 h.s, .int .u32 h.d, .int .u16 h.p, .int .u16 h.q, .int .u8 h.r] 28)) b d P q v) := hv.on hb0
 have HH0 : Hid ((w.alloc (.cells #[.int .u32 h.s, .int .u32 h.d, .int .u16 h.p, .int .u16 h.q, .int .u8 h.r] 28)).heap[w.heap.size]? = some (.cells #[.int .u32 h.s, .int .u32 h.d, .int .u16 h.p, .int .u16 h.q, .int .u8 h.r] 28)) := blk_new w _
 have HO0 : Hid (CtOk l d P) := ok
 obtain ⟨F, hF⟩ : ∃ F, F = (fndT bn h d P).2 := ⟨_, rfl⟩
 have HF0 : Hid (F = 0 + (fndT bn h d P).2) := by show _ = _; rw [hF, Nat.zero_add]
 rw [← hF]
 clear hF oh hb0 hN hr hv ok hh
 go_enter Tryz.func19, Tryz.ntmps19
 go_wp2_with (fail)
 go_loopw [0, 5] (fun vn vd wr => ∃ (d' k B' o' : Nat) (P' : Part) (q' : Nv), k + d' ≤ d ∧ vn = .pointer (some ⟨B', o', none⟩) ∧ vd = .int .i64 k ∧ Hid (Nd bn wr b d' P' q') ∧ Hid (wr.rangeAt B' o' (#[.int .u32 q'.x.a.1, .int .u32 q'.x.a.2, .int .u32 q'.x.b.1, .int .u32 q'.x.b.2, .int .u16 q'.x.c.1, .int .u16 q'.x.c.2, .int .u16 q'.x.d.1, .int .u16 q'.x.d.2, .int .u8 q'.x.m.1, .int .u8 q'.x.m.2, .pointer q'.k, .slice q'.ad q'.n q'.cap] : Array Value).toList) ∧ Hid (LfV bn h wr b d' P' q' v) ∧ Hid (wr.heap[w.heap.size]? = some (.cells #[.int .u32 h.s, .int .u32 h.d, .int .u16 h.p, .int .u16 h.q, .int .u8 h.r] 28)) ∧ Hid (CtOk l d' P') ∧ Hid (F = k + (fndT bn h d' P').2) ∧ Hid (Below w.heap.size w wr)) (fun _ vd _ => d + 1 - (intOf vd).toNat)
 case atStart => exact ⟨d, 0, B, o, P, q, by omega, rfl, rfl, HN0.out, HR0.out, HV0.out, HH0.out, HO0.out, HF0.out, HB0.out⟩
 case round =>
  clear HN0 HR0 HV0 HH0 HO0 HF0 HB0
  obtain ⟨d', k, B', o', P', q', hkd, rfl, rfl, HN, HR, HV, HH, HO, HF, HB⟩ := hrel
  obtain ⟨c10, c11⟩ := node_cells HR.out
  have hst := lf_step HN.out HV.out
  have hk32 : k ≤ 32 := by omega
  rcases hst with ⟨e1, e2, e3⟩ | ⟨d2, K, q1, q2, rfl, ex, ek, hK, hh⟩
  ·rw [e1] at c10
   have hFk : F = k := by have := HF.out; omega
   subst hFk
   subst e2
   clear HN HV HR HF
   go_wp2
   exact bodyPost_ret (v := .tuple #[.slice q'.ad q'.n q'.cap, .int .i64 F]) (by simp [results, Tryz.results19, go_sem]) rfl ⟨rfl, HB.out⟩
  ·rw [ek] at c10
   have c10' : Hid _ := c10
   obtain ⟨r1, r2⟩ := kids_rng hK
   have hbo := best_ok HO.out
   have hbx : Xb.BdX q'.x := by rw [ex]; exact bdX_F.2 hbo.1.bd
   have hhas := fun W => Xb.hasXC q'.x ⟨h.s, h.d, h.p, h.q, h.r⟩ W hbx HOh.out
   have hre : Xb.hasH q'.x ⟨h.s, h.d, h.p, h.q, h.r⟩ = hasY (bestP P').1.1 h := by rw [ex]; rfl
   rw [hre] at hhas
   have HR1 : Hid _ := r1
   have HR2 : Hid _ := r2
   have HBo : Hid _ := hbo
   have RX : Hid (wr.rangeAt B' o' (#[.int .u32 q'.x.a.1, .int .u32 q'.x.a.2, .int .u32 q'.x.b.1, .int .u32 q'.x.b.2, .int .u16 q'.x.c.1, .int .u16 q'.x.c.2, .int .u16 q'.x.d.1, .int .u16 q'.x.d.2, .int .u8 q'.x.m.1, .int .u8 q'.x.m.2] : Array Value).toList) := by have h9 := rng_sub HR.out 0 10; exact h9
   have RH : Hid (wr.rangeAt w.heap.size 0 (#[.int .u32 h.s, .int .u32 h.d, .int .u16 h.p, .int .u16 h.q, .int .u8 h.r] : Array Value).toList) := rngAll HH.out
   have hFk := HF.out
   clear r1 r2 hbo hbx hre ek hK HN HV HR c11 ex
   rcases hh with ⟨g1, g2, g3, g4⟩ | ⟨g1, g2, g3, g4⟩
   ·have HF2 : Hid (F = (k + 1) + (fndT bn h d2 (bestP P').1).2) := by show _ = _; rw [hFk, g4]; omega
    have HG2 : Hid _ := g2
    have HG3 : Hid _ := g3
    rw [g1] at hhas
    have hhas2 : ∀ W : World, Calls Tryz.prog 36 #[.agg #[.int .u32 q'.x.a.1, .int .u32 q'.x.a.2, .int .u32 q'.x.b.1, .int .u32 q'.x.b.2, .int .u16 q'.x.c.1, .int .u16 q'.x.c.2, .int .u16 q'.x.d.1, .int .u16 q'.x.d.2, .int .u8 q'.x.m.1, .int .u8 q'.x.m.2], .agg #[.int .u32 h.s, .int .u32 h.d, .int .u16 h.p, .int .u16 h.q, .int .u8 h.r]] W fun e w' => e = .returned (.bool true) ∧ Below W.heap.size W w' := hhas
    clear g1 g2 g3 g4 hFk hhas
    go_upto_region 4 with (fail)
    have kne : Nonempty (Kin wr) := ⟨⟨_, Below.refl _ _⟩⟩
    refine wp_region_kin wr (Below.refl _ _) (by kernel_rfl) (by kernel_rfl) ?_
    iterate 3 (go_big_quiet_step (fail))
    refine ct_load (by rfl) 74 (.tmp 16) rfl B' o' #[.int .u32 q'.x.a.1, .int .u32 q'.x.a.2, .int .u32 q'.x.b.1, .int .u32 q'.x.b.2, .int .u16 q'.x.c.1, .int .u16 q'.x.c.2, .int .u16 q'.x.d.1, .int .u16 q'.x.d.2, .int .u8 q'.x.m.1, .int .u8 q'.x.m.2] rfl (rng_kin RX.out) Tryz.underlying74 rfl (by kernel_rfl) ?_
    simp only [nrm]
    refine ct_load (by rfl) 28 (.tmp 3) rfl w.heap.size 0 #[.int .u32 h.s, .int .u32 h.d, .int .u16 h.p, .int .u16 h.q, .int .u8 h.r] rfl (rng_kin RH.out) Tryz.underlying28 rfl (by kernel_rfl) ?_
    simp only [nrm]
    go_big_quiet_step (first | (go_at_call 36; exact kin_call (hhas2 _)))
    refine wpQuiet_nil ?_
    rintro wq ⟨⟨xq, hxq⟩, hyq⟩
    have HQ : Hid (Below wr.heap.size wr wq) := by show Below _ _ _; rw [hyq]; exact hxq
    have c10q := cell_on1 HQ.out c10'.out
    clear hyq hxq xq kne hhas2 RX RH c10
    go_wp2_with (fail)
    go_roundw
    case rel => exact ⟨d2, k + 1, K, 0, (bestP P').1, q1, by omega, by go_num, by go_num, HG2.out.on HQ.out, rng_on HQ.out HR1.out, HG3.out.on HQ.out, blk_on HH.out HQ.out, HBo.out.1, HF2.out, HB.out.trans (HQ.out.mono HB.out.size)⟩
    case measure => simp [intOf]; omega
   ·have HF2 : Hid (F = (k + 1) + (fndT bn h d2 (bestP P').2).2) := by show _ = _; rw [hFk, g4]; omega
    have HG2 : Hid _ := g2
    have HG3 : Hid _ := g3
    rw [g1] at hhas
    have hhas2 : ∀ W : World, Calls Tryz.prog 36 #[.agg #[.int .u32 q'.x.a.1, .int .u32 q'.x.a.2, .int .u32 q'.x.b.1, .int .u32 q'.x.b.2, .int .u16 q'.x.c.1, .int .u16 q'.x.c.2, .int .u16 q'.x.d.1, .int .u16 q'.x.d.2, .int .u8 q'.x.m.1, .int .u8 q'.x.m.2], .agg #[.int .u32 h.s, .int .u32 h.d, .int .u16 h.p, .int .u16 h.q, .int .u8 h.r]] W fun e w' => e = .returned (.bool false) ∧ Below W.heap.size W w' := hhas
    clear g1 g2 g3 g4 hFk hhas
    go_upto_region 4 with (fail)
    have kne : Nonempty (Kin wr) := ⟨⟨_, Below.refl _ _⟩⟩
    refine wp_region_kin wr (Below.refl _ _) (by kernel_rfl) (by kernel_rfl) ?_
    iterate 3 (go_big_quiet_step (fail))
    refine ct_load (by rfl) 74 (.tmp 16) rfl B' o' #[.int .u32 q'.x.a.1, .int .u32 q'.x.a.2, .int .u32 q'.x.b.1, .int .u32 q'.x.b.2, .int .u16 q'.x.c.1, .int .u16 q'.x.c.2, .int .u16 q'.x.d.1, .int .u16 q'.x.d.2, .int .u8 q'.x.m.1, .int .u8 q'.x.m.2] rfl (rng_kin RX.out) Tryz.underlying74 rfl (by kernel_rfl) ?_
    simp only [nrm]
    refine ct_load (by rfl) 28 (.tmp 3) rfl w.heap.size 0 #[.int .u32 h.s, .int .u32 h.d, .int .u16 h.p, .int .u16 h.q, .int .u8 h.r] rfl (rng_kin RH.out) Tryz.underlying28 rfl (by kernel_rfl) ?_
    simp only [nrm]
    go_big_quiet_step (first | (go_at_call 36; exact kin_call (hhas2 _)))
    refine wpQuiet_nil ?_
    rintro wq ⟨⟨xq, hxq⟩, hyq⟩
    have HQ : Hid (Below wr.heap.size wr wq) := by show Below _ _ _; rw [hyq]; exact hxq
    have c10q := cell_on1 HQ.out c10'.out
    clear hyq hxq xq kne hhas2 RX RH c10
    go_wp2_with (fail)
    go_roundw
    case rel => exact ⟨d2, k + 1, K, 12, (bestP P').2, q2, by omega, by go_num, by go_num, HG2.out.on HQ.out, rng_on HQ.out HR2.out, HG3.out.on HQ.out, blk_on HH.out HQ.out, HBo.out.2.1, HF2.out, HB.out.trans (HQ.out.mono HB.out.size)⟩
    case measure => simp [intOf]; omega
end Go.Proofs.YtgokmkholjfhbaaGreat
