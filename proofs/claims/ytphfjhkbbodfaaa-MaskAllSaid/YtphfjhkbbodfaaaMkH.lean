/-
  A list of bytes that is read; mask.Hull: what it hands back.
-/
import Derived.Test.YtphfjhkbbodfaaaMkB
namespace Go.Proofs.Ytphfjhkbbodfaaa
open Go.RowKit
set_option linter.unusedVariables false
set_option linter.unusedSimpArgs false

/-- The slice v of w reads as the list of bytes. -/
def SrcB (w : World) (v : Value) (l : List Nat) : Prop :=
  ∃ (ad : Option Addr) (cap : Nat), v = .slice ad l.length cap ∧ (0 < l.length → ∃ g off, ad = some ⟨g, off, none⟩ ∧ ∀ k (hk : k < l.length), w.cell? ⟨g, off + k, none⟩ = some (.int .u8 ((l[k]'hk : Nat) : Int)))
theorem SrcB.keep {w w1 : World} {v : Value} {l : List Nat} (h : SrcB w v l) (hb : Below w.heap.size w w1) : SrcB w1 v l := by
  obtain ⟨ad, cap, rfl, h2⟩ := h
  refine ⟨ad, cap, rfl, fun h0 => ?_⟩
  obtain ⟨g, off, rfl, h3⟩ := h2 h0
  exact ⟨g, off, rfl, fun k hk => by
    have := h3 k hk
    rw [hb.cell (World.block_lt_of_cell? w _ this)]; exact this⟩
/-- Bytes. -/
def BdB (l : List Nat) : Prop := ∀ p ∈ l, p < 256
theorem hull_nil (v : Value) (w : World) (h : SrcB w v []) :
    Calls Try.prog 26 #[v] w fun e w' => e = .returned (.tuple #[.agg #[.int .u8 0, .int .u8 0], .int .i64 1]) ∧ Below w.heap.size w w' := by
  obtain ⟨ad, cap, rfl, _⟩ := h
  go_enter Try.func26, Try.ntmps26
  go_wp2
  exact bodyPost_ret (v := .tuple #[.agg #[.int .u8 0, .int .u8 0], .int .i64 1]) (by simp [results, Try.results26, go_sem]) rfl ⟨rfl, by (repeat (first | assumption | exact Below.refl _ _ | refine Below.drew ?_ | refine bel_drewN ?_ _ | refine Below.setCell ?_ (by first | omega | (simp; done) | (simp; omega)) _ | refine Below.alloc ?_ (by first | omega | (simp; done) | (simp; omega)) _ | refine bel_of ?_ (by assumption)))⟩
theorem takeB {l : List Nat} {k : Nat} (h : k < l.length) : l.take (k + 1) = l.take k ++ [l[k]] := by rw [List.take_succ_eq_append_getElem h]
set_option maxHeartbeats 1000000 in
theorem hull_some (l : List Nat) (v : Value) (w : World) (h : SrcB w v l) (hl : l.length ≤ 4294967296) (hbd : BdB l) (y : Nat) (hy : ∃ h0 : 0 < l.length, y = l[0]) :
    Calls Try.prog 26 #[v] w fun e w' => e = .returned (.tuple #[.agg #[.int .u8 (y &&& hullC y l : Nat), .int .u8 (hullC y l : Nat)], .int .i64 0]) ∧ Below w.heap.size w w' := by
  obtain ⟨h0, hy⟩ := hy
  obtain ⟨ad, cap, rfl, h2⟩ := h
  obtain ⟨g, off, rfl, h3⟩ := h2 h0
  have y0 := h3 0 h0
  rw [← hy, Nat.add_zero] at y0
  have hy8 : y < 256 := by rw [hy]; exact hbd _ (List.getElem_mem _)
  have hne : ¬ ((l.length : Nat) : Int) = 0 := by omega
  have hpos : (0 : Int) < ((l.length : Nat) : Int) := by omega
  have hg : g < w.heap.size := World.block_lt_of_cell? _ _ y0
  have hg1 : ¬ w.heap.size = g := by omega
  have hg2 : ¬ g = w.heap.size := by omega
  clear h2 hy
  go_enter Try.func26, Try.ntmps26
  go_wp2_with (fail)
  go_loop [4, 6, 13] (fun al pv iv => ∃ k : Nat, k ≤ l.length ∧ iv = .int .i64 k ∧ al = .int .u8 ((hullC y (l.take k) : Nat) : Int)) (fun _ _ iv => l.length - (intOf iv).toNat)
  case atStart => exact ⟨0, Nat.zero_le _, rfl, rfl⟩
  case round =>
    obtain ⟨k, hk, rfl, rfl⟩ := hrel
    by_cases hlt : k < l.length
    · have hlt' : (k : Int) < ((l.length : Nat) : Int) := by omega
      have hk0 : (0 : Int) ≤ (k : Int) := by omega
      have x0 := h3 k hlt
      obtain ⟨p, hp⟩ : ∃ p, p = l[k] := ⟨_, rfl⟩
      rw [← hp] at x0
      have hp8 : p < 256 := by rw [hp]; exact hbd _ (List.getElem_mem _)
      have HT : Hid (hullC y (l.take (k + 1)) = hullC y (l.take k) &&& (255 - (p ^^^ y))) := by show _ = _; rw [takeB hlt, hullC_snoc, hp]
      have e1 : bits .xor .u8 ((p : Nat) : Int) ((y : Nat) : Int) = ((p ^^^ y : Nat) : Int) := u8_xor_nat _ _ hp8 hy8
      have e2 : bits .andNot .u8 ((hullC y (l.take k) : Nat) : Int) ((p ^^^ y : Nat) : Int) = ((hullC y (l.take k) &&& (255 - (p ^^^ y)) : Nat) : Int) := u8_andNot_nat _ _ (hullC_lt _ _) (xor_lt hp8 hy8)
      rw [← HT.out] at e2
      generalize p ^^^ y = q at e1 e2
      clear hp h3 HT
      go_wp2_with (fail)
      go_round
      case rel => exact ⟨k + 1, by omega, by go_num, by simp [go_sem, *]⟩
      case measure => simp [intOf]; omega
    · obtain rfl : k = l.length := by omega
      rw [List.take_length]
      have e1 : bits .and .u8 ((y : Nat) : Int) ((hullC y l : Nat) : Int) = ((y &&& hullC y l : Nat) : Int) := u8_and_nat _ _ hy8 (hullC_lt _ _)
      generalize hq : y &&& hullC y l = q at e1
      generalize hr : hullC y l = r at e1
      go_wp2_with (fail)
      exact bodyPost_ret (v := .tuple #[.agg #[.int .u8 (q : Nat), .int .u8 (r : Nat)], .int .i64 0]) (by simp [results, Try.results26, go_sem]) rfl ⟨by first | rfl | rw [hq, hr] | rw [← hq, hr] | (rw [hr] at hq; rw [hq]), by (repeat (first | assumption | exact Below.refl _ _ | refine Below.drew ?_ | refine bel_drewN ?_ _ | refine Below.setCell ?_ (by first | omega | (simp; done) | (simp; omega)) _ | refine Below.alloc ?_ (by first | omega | (simp; done) | (simp; omega)) _ | refine bel_of ?_ (by assumption)))⟩
end Go.Proofs.Ytphfjhkbbodfaaa
