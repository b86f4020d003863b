/-
  Rows of thirteen bytes.
-/
import Derived.Test.YtpgadbiohmofeabHdU
namespace Go.Proofs.Ytpgadbiohmofeab
open Go.RowKit
set_option linter.unusedVariables false
set_option linter.unusedSimpArgs false

theorem row13 (w : World) (l : List Nat) (b : Nat) (hl : l.length = 13) (hb : b ≤ w.heap.size) : RowB (w.alloc (.cells #[.int .u8 ((l.getD 0 0 : Nat) : Int), .int .u8 ((l.getD 1 0 : Nat) : Int), .int .u8 ((l.getD 2 0 : Nat) : Int), .int .u8 ((l.getD 3 0 : Nat) : Int), .int .u8 ((l.getD 4 0 : Nat) : Int), .int .u8 ((l.getD 5 0 : Nat) : Int), .int .u8 ((l.getD 6 0 : Nat) : Int), .int .u8 ((l.getD 7 0 : Nat) : Int), .int .u8 ((l.getD 8 0 : Nat) : Int), .int .u8 ((l.getD 9 0 : Nat) : Int), .int .u8 ((l.getD 10 0 : Nat) : Int), .int .u8 ((l.getD 11 0 : Nat) : Int), .int .u8 ((l.getD 12 0 : Nat) : Int)] 39)) b (.slice (some ⟨w.heap.size, 0, none⟩) 13 13) l := by
  obtain ⟨a0, a1, a2, a3, a4, a5, a6, a7, a8, a9, b0, b1, b2, rfl⟩ := len13 hl
  exact ⟨_, World.ownsRow_lit w _ 13 hb (by decide) rfl⟩
theorem RowB.get {w : World} {b g cap : Nat} {l : List Nat} (h : RowB w b (.slice (some ⟨g, 0, none⟩) 13 cap) l) (hl : l.length = 13) (k : Nat) (hk : k < 13) : w.cell? ⟨g, k, none⟩ = some (.int .u8 ((l.getD k 0 : Nat) : Int)) := by
  obtain ⟨ad, cap', hv, _, hat⟩ := h.form
  obtain ⟨g', hg', _, _, hc⟩ := hat (by omega)
  rw [hg', hl] at hv
  simp at hv
  rw [hv.1, hc k (by omega), List.getD_eq_getElem?_getD, List.getElem?_eq_getElem (by omega)]
  rfl
end Go.Proofs.Ytpgadbiohmofeab
