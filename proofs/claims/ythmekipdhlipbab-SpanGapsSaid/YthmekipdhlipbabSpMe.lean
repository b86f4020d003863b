/-
  The statements' own helpers: spoil (writes over what was told), lent (a list in memory of its own, two marks behind it), back (is it as it was?).
-/
import Derived.Test.YthmekipdhlipbabSpAw
namespace Go.Proofs.Ythmekipdhlipbab
open Go.RowKit
set_option linter.unusedVariables false
set_option linter.unusedSimpArgs false

/-- A block of n spans' cells, whatever they hold. -/
def Blk (w : World) (g n : Nat) : Prop := ∃ cur : Array Value, w.heap[g]? = some (.cells cur 31 (0, 0)) ∧ cur.size = n * 2
theorem Blk.cell {w : World} {g n : Nat} (h : Blk w g n) {i : Nat} (hi : i < n * 2) : (∃ u, w.cell? ⟨g, i, none⟩ = some u) ∧ w.frozen? ⟨g, i, none⟩ = false := by
  obtain ⟨cur, hg, hs⟩ := h
  exact ⟨⟨cur[i]'(by omega), by rw [cell_of_row w g i cur _ (0, 0) hg]; simp [show i < cur.size by omega]⟩, by simp [World.frozen?, hg]⟩
theorem Blk.set {w : World} {g n : Nat} (h : Blk w g n) (i : Nat) (u : Value) : Blk (w.setCell ⟨g, i, none⟩ u) g n := by
  obtain ⟨cur, hg, hs⟩ := h
  exact ⟨cur.setIfInBounds i u, by simp [World.setCell, Array.getElem?_modify, hg], by simpa using hs⟩
theorem Blk.lt {w : World} {g n : Nat} (h : Blk w g n) : g < w.heap.size := by
  obtain ⟨cur, hg, _⟩ := h
  exact (Array.getElem?_eq_some_iff.1 hg).1
theorem Blk.on {w w' : World} {g n : Nat} (h : Blk w g n) (hb : Below w.heap.size w w') : Blk w' g n := by
  obtain ⟨cur, hg, hs⟩ := h
  exact ⟨cur, (hb.block g (Array.getElem?_eq_some_iff.1 hg).1).trans hg, hs⟩
theorem grown_below {a w w' : World} {r : Option Nat} (h : a.grownBy w r) (hb : Below w.heap.size w w') : a.grownBy w' r :=
  h.trans ⟨hb.os, hb.tape, hb.output, hb.size, fun k hk _ => hb.block k hk⟩
theorem grown_set {a w : World} {g : Nat} (h : a.grownBy w (some g)) (i : Nat) (u : Value) : a.grownBy (w.setCell ⟨g, i, none⟩ u) (some g) :=
  ⟨h.os, h.tape, h.output, by have := h.size; simpa [World.setCell] using this, fun k hk hne => by
    rw [Below.heap_setCell _ _ _ _ (by intro e; exact hne (by rw [e]))]
    exact h.block k hk hne⟩
set_option maxHeartbeats 1000000 in
theorem spoilS (l : List (Nat × Nat)) (v : Value) (b : Nat) (w : World) (h : Row w b v l) :
    Calls Try.prog 12 #[v] w fun e w' => e = .returned (.tuple #[]) ∧ w.grownBy w' v.ownBlock := by
  rcases h.2 with ⟨rfl, _⟩ | ⟨g, cap, cur, rfl, hgb, hg, hn, hm, hs, _⟩
  · clear h
    go_enter Try.func12, Try.ntmps12
    go_wp2
    go_loop [2] (fun i => i = .int .i64 0) (fun _ => 0)
    case atStart => rfl
    case round =>
      obtain rfl := hrel
      go_wp2
      go_end0
      exact ⟨rfl, ⟨rfl, rfl, rfl, Nat.le_refl _, fun _ _ _ => rfl⟩⟩
  · have HBk : Hid (Blk w g cap) := ⟨cur, hg, hs⟩
    unfold maxLen at hm
    generalize l.length = n at hn
    clear h hg hs hgb
    go_enter Try.func12, Try.ntmps12
    go_wp2_with (fail)
    go_loopw [2] (fun iv wr => ∃ k : Nat, k ≤ cap ∧ iv = .int .i64 k ∧ Hid (Blk wr g cap) ∧ Hid (w.grownBy wr (some g))) (fun iv _ => cap - (intOf iv).toNat)
    case atStart => exact ⟨0, Nat.zero_le _, rfl, HBk.out, ⟨rfl, rfl, rfl, Nat.le_refl _, fun _ _ _ => rfl⟩⟩
    case round =>
      obtain ⟨k, hk, rfl, hB, hG⟩ := hrel
      by_cases hlt : k < cap
      · have hlt' : (k : Int) < (cap : Int) := by omega
        have hk0 : (0 : Int) ≤ (k : Int) := by omega
        go_wp2_with (fail)
        refine (ofS 5 4 _).mono ?_
        rintro e w3 ⟨rfl, hb3⟩
        have HB3 : Hid (Blk w3 g cap) := hB.out.on hb3
        have HG3 : Hid (w.grownBy w3 (some g)) := grown_below hG.out hb3
        obtain ⟨⟨u0, y0⟩, f0⟩ := HB3.out.cell (i := k * 2) (by omega)
        obtain ⟨⟨u1, y1⟩, f1⟩ := HB3.out.cell (i := k * 2 + 1) (by omega)
        clear hb3 hB hG
        go_wp2
        go_roundw
        case rel => exact ⟨k + 1, by omega, by go_num, (HB3.out.set _ _).set _ _, grown_set (grown_set HG3.out _ _) _ _⟩
        case measure => simp [intOf]; omega
      · have hlt' : ¬ (k : Int) < (cap : Int) := by omega
        go_wp2
        go_end0
        exact ⟨rfl, hG.out⟩
end Go.Proofs.Ythmekipdhlipbab
