/-
  Of of header: what it hands back.
-/
import Derived.Test.YtpgadbiohmofeabHdK
import Derived.Test.YtpgadbiohmofeabHdPb
import Derived.Deep.RegionHeld3
namespace Go.Proofs.Ytpgadbiohmofeab
open Go.RowKit
set_option linter.unusedVariables false
set_option linter.unusedSimpArgs false

set_option maxHeartbeats 1000000 in
theorem ofN : OfN := by
  intro l v w hs hl hm
  obtain ⟨ad, cap, rfl, -, -⟩ := hs
  have hne : ¬ (l.length : Int) = 5 := by omega
  have hnb : ((l.length : Int) != 5) = true := by simp [hne]
  generalize l.length = n at *
  go_enter Try.func16, Try.ntmps16
  go_wp2
  exact bodyPost_ret (v := .tuple #[.agg #[.int .u32 (h0.s : Int), .int .u32 (h0.d : Int), .int .u16 (h0.p : Int), .int .u16 (h0.q : Int), .int .u8 (h0.r : Int)], .int .i64 1]) (by simp [results, Try.results16, go_sem, h0]) rfl ⟨rfl, by (with_reducible (repeat (first | assumption | exact Below.refl _ _ | refine Below.drew ?_ | refine bel_drewN ?_ _ | refine bset ?_ _ _ | refine Below.alloc ?_ (Nat.le_refl _) _)))⟩
set_option maxHeartbeats 1000000 in
theorem ofC : OfC := by
  intro a b c d e v w hs ha hb hc hd he
  obtain ⟨ad, cap, rfl, hcap, hat⟩ := hs
  obtain ⟨g, off, rfl, hcell⟩ := hat (by simp)
  have x0 : w.cell? ⟨g, off, none⟩ = some (.int .u32 (a : Int)) := hcell 0 (by simp)
  have x1 : w.cell? ⟨g, off + 1, none⟩ = some (.int .u32 (b : Int)) := hcell 1 (by simp)
  have x2 : w.cell? ⟨g, off + 2, none⟩ = some (.int .u32 (c : Int)) := hcell 2 (by simp)
  have x3 : w.cell? ⟨g, off + 3, none⟩ = some (.int .u32 (d : Int)) := hcell 3 (by simp)
  have x4 : w.cell? ⟨g, off + 4, none⟩ = some (.int .u32 (e : Int)) := hcell 4 (by simp)
  have hg : g < w.heap.size := World.block_lt_of_cell? _ _ x0
  have hne : ¬ g = w.heap.size := by omega
  simp only [List.length_cons, List.length_nil] at hcap ⊢
  have dc : ¬ (65535 : Int) < (c : Int) := by omega
  have dd : ¬ (65535 : Int) < (d : Int) := by omega
  have de : ¬ (255 : Int) < (e : Int) := by omega
  have dc' : decide ((65535 : Int) < (c : Int)) = false := decide_eq_false dc
  have dd' : decide ((65535 : Int) < (d : Int)) = false := decide_eq_false dd
  have de' : decide ((255 : Int) < (e : Int)) = false := decide_eq_false de
  have wc : IntKind.u16.wrap (c : Int) = (c : Int) := by simp [IntKind.wrap, IntKind.signed, IntKind.bits]; omega
  have wd : IntKind.u16.wrap (d : Int) = (d : Int) := by simp [IntKind.wrap, IntKind.signed, IntKind.bits]; omega
  have we : IntKind.u8.wrap (e : Int) = (e : Int) := by simp [IntKind.wrap, IntKind.signed, IntKind.bits]; omega
  clear hat hcell
  go_enter Try.func16, Try.ntmps16
  go_wp2
  go_quiet (fail)
  go_wp2
  go_region_held3 (fun w' => Below w.heap.size w w' ∧ w'.cell? ⟨g, off, none⟩ = some (.int .u32 (a : Int)) ∧ w'.cell? ⟨g, off + 1, none⟩ = some (.int .u32 (b : Int)) ∧ (∀ i, w'.frozen? ⟨w.heap.size, i, none⟩ = false) ∧ (w'.cell? ⟨w.heap.size, 0, none⟩).isSome = true ∧ (w'.cell? ⟨w.heap.size, 1, none⟩).isSome = true ∧ (w'.cell? ⟨w.heap.size, 2, none⟩).isSome = true ∧ (w'.cell? ⟨w.heap.size, 3, none⟩).isSome = true ∧ (w'.cell? ⟨w.heap.size, 4, none⟩).isSome = true) (refine ⟨?_, ?_, ?_, ?_, ?_, ?_, ?_, ?_, ?_⟩ <;> first | (with_reducible assumption) | ((with_reducible (repeat (first | assumption | exact Below.refl _ _ | refine Below.drew ?_ | refine bel_drewN ?_ _ | refine bset ?_ _ _ | refine Below.alloc ?_ (Nat.le_refl _) _))); done) | go_keep | (simp [go_sem]; done) | (simp [go_sem, *]; done)) (fail)
  go_wp2
  exact bodyPost_ret (v := .tuple #[.agg #[.int .u32 (a : Int), .int .u32 (b : Int), .int .u16 (c : Int), .int .u16 (d : Int), .int .u8 (e : Int)], .int .i64 0]) (by simp [results, Try.results16, go_sem, *]) rfl ⟨rfl, by exact (‹Below w.heap.size w _ ∧ _›).1⟩
set_option maxHeartbeats 1000000 in
theorem ofF : OfF := by
  intro a b c d e v w hs ha hb hc hd he hbad
  obtain ⟨ad, cap, rfl, hcap, hat⟩ := hs
  obtain ⟨g, off, rfl, hcell⟩ := hat (by simp)
  have x2 : w.cell? ⟨g, off + 2, none⟩ = some (.int .u32 (c : Int)) := hcell 2 (by simp)
  have x3 : w.cell? ⟨g, off + 3, none⟩ = some (.int .u32 (d : Int)) := hcell 3 (by simp)
  have x4 : w.cell? ⟨g, off + 4, none⟩ = some (.int .u32 (e : Int)) := hcell 4 (by simp)
  have hg : g < w.heap.size := World.block_lt_of_cell? _ _ x2
  have hne : ¬ g = w.heap.size := by omega
  simp only [List.length_cons, List.length_nil] at hcap ⊢
  clear hat hcell
  rcases (show 65535 < c ∨ (¬ 65535 < c ∧ 65535 < d) ∨ (¬ 65535 < c ∧ ¬ 65535 < d ∧ 255 < e) by omega) with h1 | ⟨h1, h2⟩ | ⟨h1, h2, h3⟩
  · have dc : (65535 : Int) < (c : Int) := by omega
    clear hbad
    go_enter Try.func16, Try.ntmps16
    go_wp2
    go_quiet (fail)
    go_wp2
    exact bodyPost_ret (v := .tuple #[.agg #[.int .u32 (h0.s : Int), .int .u32 (h0.d : Int), .int .u16 (h0.p : Int), .int .u16 (h0.q : Int), .int .u8 (h0.r : Int)], .int .i64 61]) (by simp [results, Try.results16, go_sem, h0]) rfl ⟨rfl, by (with_reducible (repeat (first | assumption | exact Below.refl _ _ | refine Below.drew ?_ | refine bel_drewN ?_ _ | refine bset ?_ _ _ | refine Below.alloc ?_ (Nat.le_refl _) _)))⟩
  · have dc : ¬ (65535 : Int) < (c : Int) := by omega
    have dd : (65535 : Int) < (d : Int) := by omega
    clear hbad
    go_enter Try.func16, Try.ntmps16
    go_wp2
    go_quiet (fail)
    go_wp2
    exact bodyPost_ret (v := .tuple #[.agg #[.int .u32 (h0.s : Int), .int .u32 (h0.d : Int), .int .u16 (h0.p : Int), .int .u16 (h0.q : Int), .int .u8 (h0.r : Int)], .int .i64 61]) (by simp [results, Try.results16, go_sem, h0]) rfl ⟨rfl, by (with_reducible (repeat (first | assumption | exact Below.refl _ _ | refine Below.drew ?_ | refine bel_drewN ?_ _ | refine bset ?_ _ _ | refine Below.alloc ?_ (Nat.le_refl _) _)))⟩
  · have dc : ¬ (65535 : Int) < (c : Int) := by omega
    have dd : ¬ (65535 : Int) < (d : Int) := by omega
    have de : (255 : Int) < (e : Int) := by omega
    clear hbad
    go_enter Try.func16, Try.ntmps16
    go_wp2
    go_quiet (fail)
    go_wp2
    exact bodyPost_ret (v := .tuple #[.agg #[.int .u32 (h0.s : Int), .int .u32 (h0.d : Int), .int .u16 (h0.p : Int), .int .u16 (h0.q : Int), .int .u8 (h0.r : Int)], .int .i64 61]) (by simp [results, Try.results16, go_sem, h0]) rfl ⟨rfl, by (with_reducible (repeat (first | assumption | exact Below.refl _ _ | refine Below.drew ?_ | refine bel_drewN ?_ _ | refine bset ?_ _ _ | refine Below.alloc ?_ (Nat.le_refl _) _)))⟩
end Go.Proofs.Ytpgadbiohmofeab
