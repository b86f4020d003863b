/-
  What Of of the document's answer hands back; the statements' own 'same' of two lists of bytes.
-/
import Derived.Test.YtpgadbiohmofeaaHdRd
namespace Go.Proofs.Ytpgadbiohmofeaa
open Go.RowKit
set_option linter.unusedVariables false
set_option linter.unusedSimpArgs false
attribute [local go_sem ↓] Go.wp_at_zero Go.wp_at_succ

theorem rOfN (l : List Nat) (v : Value) (w : World) (hs : SrcW w v l) (hl : l.length ≠ 5) (hl2 : l.length ≤ 4294967296) :
    Calls Try.prog 26 #[v] w fun e w' => e = .returned (.tuple #[.agg #[.int .u32 (h0.s : Int), .int .u32 (h0.d : Int), .int .u16 (h0.p : Int), .int .u16 (h0.q : Int), .int .u8 (h0.r : Int)], .int .i64 1]) ∧ Below w.heap.size w w' := by
  obtain ⟨ad, cap, rfl, hcap, _⟩ := hs
  have hne : ((l.length : Int) != 5) = true := by simp; omega
  have hne2 : ¬ (l.length : Int) = 5 := by omega
  have hne3 : ¬ l.length = 5 := hl
  clear hl
  go_enter Try.func26, Try.ntmps26
  go_wp2
  exact bodyPost_ret (v := .tuple #[.agg #[.int .u32 (h0.s : Int), .int .u32 (h0.d : Int), .int .u16 (h0.p : Int), .int .u16 (h0.q : Int), .int .u8 (h0.r : Int)], .int .i64 1]) (by simp [results, Try.results26, go_sem, h0]) rfl ⟨rfl, by (repeat (first | assumption | exact Below.refl _ _ | refine Below.drew ?_ | refine bel_drewN ?_ _ | refine Below.setCell ?_ (by first | omega | (simp; done) | (simp; omega)) _ | refine Below.alloc ?_ (by first | omega | (simp; done) | (simp; omega)) _ | refine bel_of ?_ (by assumption)))⟩
theorem srcW5 {w : World} {v : Value} {a b c d e : Nat} (hs : SrcW w v [a, b, c, d, e]) : ∃ g off cap, v = .slice (some ⟨g, off, none⟩) 5 cap ∧ g < w.heap.size ∧ w.cell? ⟨g, off, none⟩ = some (.int .u32 (a : Int)) ∧ w.cell? ⟨g, off + 1, none⟩ = some (.int .u32 (b : Int)) ∧ w.cell? ⟨g, off + 2, none⟩ = some (.int .u32 (c : Int)) ∧ w.cell? ⟨g, off + 3, none⟩ = some (.int .u32 (d : Int)) ∧ w.cell? ⟨g, off + 4, none⟩ = some (.int .u32 (e : Int)) := by
  obtain ⟨ad, cap, rfl, _, h⟩ := hs
  obtain ⟨g, off, rfl, hc⟩ := h (by simp)
  have x0 := hc 0 (by simp)
  exact ⟨g, off, cap, rfl, World.block_lt_of_cell? _ _ x0, x0, hc 1 (by simp), hc 2 (by simp), hc 3 (by simp), hc 4 (by simp)⟩
theorem rOfF (a b c d e : Nat) (v : Value) (w : World) (hs : SrcW w v [a, b, c, d, e]) (h : 65535 < c ∨ 65535 < d ∨ 255 < e) :
    Calls Try.prog 26 #[v] w fun e w' => e = .returned (.tuple #[.agg #[.int .u32 (h0.s : Int), .int .u32 (h0.d : Int), .int .u16 (h0.p : Int), .int .u16 (h0.q : Int), .int .u8 (h0.r : Int)], .int .i64 61]) ∧ Below w.heap.size w w' := by
  obtain ⟨g, off, cap, rfl, hg, x0, x1, x2, x3, x4⟩ := srcW5 hs
  clear hs
  by_cases h1 : 65535 < c
  · have d1 : decide ((65535 : Int) < (c : Int)) = true := decide_eq_true (by omega)
    have d1' : (65535 : Int) < (c : Int) := by omega
    clear h h1
    go_enter Try.func26, Try.ntmps26
    go_wp2
    exact bodyPost_ret (v := .tuple #[.agg #[.int .u32 (h0.s : Int), .int .u32 (h0.d : Int), .int .u16 (h0.p : Int), .int .u16 (h0.q : Int), .int .u8 (h0.r : Int)], .int .i64 61]) (by simp [results, Try.results26, go_sem, h0]) rfl ⟨rfl, by (repeat (first | assumption | exact Below.refl _ _ | refine Below.drew ?_ | refine bel_drewN ?_ _ | refine Below.setCell ?_ (by first | omega | (simp; done) | (simp; omega)) _ | refine Below.alloc ?_ (by first | omega | (simp; done) | (simp; omega)) _ | refine bel_of ?_ (by assumption)))⟩
  · have d1 : decide ((65535 : Int) < (c : Int)) = false := decide_eq_false (by omega)
    have d1' : ¬ (65535 : Int) < (c : Int) := by omega
    by_cases h2 : 65535 < d
    · have d2 : decide ((65535 : Int) < (d : Int)) = true := decide_eq_true (by omega)
      have d2' : (65535 : Int) < (d : Int) := by omega
      clear h h1 h2
      go_enter Try.func26, Try.ntmps26
      go_wp2
      exact bodyPost_ret (v := .tuple #[.agg #[.int .u32 (h0.s : Int), .int .u32 (h0.d : Int), .int .u16 (h0.p : Int), .int .u16 (h0.q : Int), .int .u8 (h0.r : Int)], .int .i64 61]) (by simp [results, Try.results26, go_sem, h0]) rfl ⟨rfl, by (repeat (first | assumption | exact Below.refl _ _ | refine Below.drew ?_ | refine bel_drewN ?_ _ | refine Below.setCell ?_ (by first | omega | (simp; done) | (simp; omega)) _ | refine Below.alloc ?_ (by first | omega | (simp; done) | (simp; omega)) _ | refine bel_of ?_ (by assumption)))⟩
    · have d2 : decide ((65535 : Int) < (d : Int)) = false := decide_eq_false (by omega)
      have d2' : ¬ (65535 : Int) < (d : Int) := by omega
      have d3 : decide ((255 : Int) < (e : Int)) = true := decide_eq_true (by omega)
      have d3' : (255 : Int) < (e : Int) := by omega
      clear h h1 h2
      go_enter Try.func26, Try.ntmps26
      go_wp2
      exact bodyPost_ret (v := .tuple #[.agg #[.int .u32 (h0.s : Int), .int .u32 (h0.d : Int), .int .u16 (h0.p : Int), .int .u16 (h0.q : Int), .int .u8 (h0.r : Int)], .int .i64 61]) (by simp [results, Try.results26, go_sem, h0]) rfl ⟨rfl, by (repeat (first | assumption | exact Below.refl _ _ | refine Below.drew ?_ | refine bel_drewN ?_ _ | refine Below.setCell ?_ (by first | omega | (simp; done) | (simp; omega)) _ | refine Below.alloc ?_ (by first | omega | (simp; done) | (simp; omega)) _ | refine bel_of ?_ (by assumption)))⟩
set_option maxHeartbeats 1000000 in
theorem rOfC (a b c d e : Nat) (v : Value) (w : World) (hs : SrcW w v [a, b, c, d, e]) (h1 : c ≤ 65535) (h2 : d ≤ 65535) (h3 : e ≤ 255) :
    Calls Try.prog 26 #[v] w fun ee w' => ee = .returned (.tuple #[.agg #[.int .u32 (((⟨a, b, c, d, e⟩ : Hd)).s : Int), .int .u32 (((⟨a, b, c, d, e⟩ : Hd)).d : Int), .int .u16 (((⟨a, b, c, d, e⟩ : Hd)).p : Int), .int .u16 (((⟨a, b, c, d, e⟩ : Hd)).q : Int), .int .u8 (((⟨a, b, c, d, e⟩ : Hd)).r : Int)], .int .i64 0]) ∧ Below w.heap.size w w' := by
  obtain ⟨g, off, cap, rfl, hg, x0, x1, x2, x3, x4⟩ := srcW5 hs
  clear hs
  have d1 : decide ((65535 : Int) < (c : Int)) = false := decide_eq_false (by omega)
  have d1' : ¬ (65535 : Int) < (c : Int) := by omega
  have d2 : decide ((65535 : Int) < (d : Int)) = false := decide_eq_false (by omega)
  have d2' : ¬ (65535 : Int) < (d : Int) := by omega
  have d3 : decide ((255 : Int) < (e : Int)) = false := decide_eq_false (by omega)
  have d3' : ¬ (255 : Int) < (e : Int) := by omega
  have wc : IntKind.u16.wrap (c : Int) = (c : Int) := by simp [IntKind.wrap, IntKind.signed, IntKind.bits]; omega
  have wd : IntKind.u16.wrap (d : Int) = (d : Int) := by simp [IntKind.wrap, IntKind.signed, IntKind.bits]; omega
  have we : IntKind.u8.wrap (e : Int) = (e : Int) := by simp [IntKind.wrap, IntKind.signed, IntKind.bits]; omega
  go_enter Try.func26, Try.ntmps26
  go_wp2
  go_region_held3 (fun w' => Below w.heap.size w w' ∧ w'.cell? ⟨g, off, none⟩ = some (.int .u32 (a : Int)) ∧ w'.cell? ⟨g, off + 1, none⟩ = some (.int .u32 (b : Int)) ∧ w'.cell? ⟨g, off + 2, none⟩ = some (.int .u32 (c : Int)) ∧ w'.cell? ⟨g, off + 3, none⟩ = some (.int .u32 (d : Int)) ∧ w'.cell? ⟨g, off + 4, none⟩ = some (.int .u32 (e : Int))) (refine ⟨?_, ?_⟩ <;> first | assumption | ((repeat (first | assumption | exact Below.refl _ _ | refine Below.drew ?_ | refine bel_drewN ?_ _ | refine Below.setCell ?_ (by first | omega | (simp; done) | (simp; omega)) _ | refine Below.alloc ?_ (by first | omega | (simp; done) | (simp; omega)) _ | refine bel_of ?_ (by assumption))); done) | go_keep) (fail)
  go_wp2
  exact bodyPost_ret (v := .tuple #[.agg #[.int .u32 (a : Int), .int .u32 (b : Int), .int .u16 (c : Int), .int .u16 (d : Int), .int .u8 (e : Int)], .int .i64 0]) (by simp [results, Try.results26, go_sem, *]) rfl ⟨rfl, by have := (‹Below w.heap.size w _ ∧ _›).1; (repeat (first | assumption | exact Below.refl _ _ | refine Below.drew ?_ | refine bel_drewN ?_ _ | refine Below.setCell ?_ (by first | omega | (simp; done) | (simp; omega)) _ | refine Below.alloc ?_ (by first | omega | (simp; done) | (simp; omega)) _ | refine bel_of ?_ (by assumption)))⟩
set_option maxHeartbeats 1000000 in
theorem sameB (l : List Nat) (hl : l.length ≤ 4294967296) (v u : Value) (w : World) (h1 : SrcB w v l) (h2 : SrcB w u l) :
    Calls Try.prog 14 #[v, u] w fun e w' => e = .returned (.bool true) ∧ Below w.heap.size w w' := by
  obtain ⟨a1, cap1, rfl, _, f1⟩ := h1
  obtain ⟨a2, cap2, rfl, _, f2⟩ := h2
  go_enter Try.func14, Try.ntmps14
  go_wp2
  go_loopw [5] (fun i wr => ∃ k d : Nat, k ≤ l.length ∧ i = .int .i64 k ∧ wr = w.drewN d) (fun i _ => l.length - (intOf i).toNat)
  case atStart => exact ⟨0, 0, Nat.zero_le _, rfl, rfl⟩
  case round =>
    obtain ⟨k, d, hk, rfl, rfl⟩ := hrel
    by_cases hlt : k < l.length
    · obtain ⟨g1, o1, rfl, c1⟩ := f1 (by omega)
      obtain ⟨g2, o2, rfl, c2⟩ := f2 (by omega)
      obtain ⟨p, hp⟩ : ∃ p, p = l[k] := ⟨_, rfl⟩
      have x1 := c1 k hlt
      have x2 := c2 k hlt
      rw [← hp] at x1 x2
      clear c1 c2 f1 f2 hp
      have hlt' : (k : Int) < (l.length : Int) := by omega
      have hk0 : (0 : Int) ≤ (k : Int) := by omega
      go_wp2
      go_quiet (fail)
      go_wp2
      go_roundw
      case rel => exact ⟨k + 1, _, by omega, by go_num, rfl⟩
      case measure => simp [intOf]; omega
    · go_wp2
      go_ret
      exact ⟨rfl, by (repeat (first | assumption | exact Below.refl _ _ | refine Below.drew ?_ | refine bel_drewN ?_ _ | refine Below.setCell ?_ (by first | omega | (simp; done) | (simp; omega)) _ | refine Below.alloc ?_ (by first | omega | (simp; done) | (simp; omega)) _ | refine bel_of ?_ (by assumption)))⟩
end Go.Proofs.Ytpgadbiohmofeaa
