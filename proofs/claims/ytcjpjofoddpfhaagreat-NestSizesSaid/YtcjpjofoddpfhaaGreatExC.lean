/-
  The document's fewest stems of a set of ports, out of the set in memory (Tiled).
-/
import Derived.Test.YtcjpjofoddpfhaaGreatExG
import Derived.Test.YtcjpjofoddpfhaaGreatExPo
import Derived.Laws.CopyOwn
namespace Go.Proofs.YtcjpjofoddpfhaaGreat.Xp
open Go.RowKit
set_option linter.unusedVariables false
set_option linter.unusedSimpArgs false

/-- The counts up to k, in the block g of 65537 numbers. -/
structure Cts (w : World) (g : Nat) (p : Nat → Bool) (k : Nat) : Prop where
  at_ : ∀ i, i ≤ k → w.cell? ⟨g, i, none⟩ = some (.int .i64 ((ah p i : Nat) : Int))
  all : ∀ i, i ≤ 65536 → ∃ u, w.cell? ⟨g, i, none⟩ = some u
  fz : ∀ i, w.frozen? ⟨g, i, none⟩ = false
theorem Cts.next {w : World} {g : Nat} {p : Nat → Bool} {k : Nat} (h : Cts w g p k) (hk : k < 65536) (z : Int) (hz : z = ((ah p (k + 1) : Nat) : Int)) : Cts (w.setCell ⟨g, k + 1, none⟩ (.int .i64 z)) g p (k + 1) := by
  have hs : ∀ i, ¬ i = k + 1 → ∀ u, w.cell? ⟨g, i, none⟩ = some u → (w.setCell ⟨g, k + 1, none⟩ (.int .i64 z)).cell? ⟨g, i, none⟩ = some u := fun i hi u hu => by
    have h1 : ¬ k + 1 = i := fun e => hi e.symm
    simp [go_sem, hu, hi, h1]
  obtain ⟨u0, hu0⟩ := h.all (k + 1) (by omega)
  have hn : (w.setCell ⟨g, k + 1, none⟩ (.int .i64 z)).cell? ⟨g, k + 1, none⟩ = some (.int .i64 z) := World.cell?_setCell_same' w ⟨g, k + 1, none⟩ _ (by rw [hu0]; rfl)
  refine ⟨fun i hi => ?_, fun i hi => ?_, fun i => ?_⟩
  · by_cases e : i = k + 1
    · subst e; rw [hn, hz]
    · exact hs i e _ (h.at_ i (by omega))
  · by_cases e : i = k + 1
    · subst e; exact ⟨_, hn⟩
    · obtain ⟨u, hu⟩ := h.all i hi
      exact ⟨u, hs i e u hu⟩
  · rw [World.frozen?_setCell]; exact h.fz i
theorem Cts.junk {w : World} {g : Nat} {p : Nat → Bool} {k : Nat} (h : Cts w g p k) (hk : k < 65536) (z : Value) : Cts (w.setCell ⟨g, k + 1, none⟩ z) g p k := by
  have hs : ∀ i, ¬ i = k + 1 → ∀ u, w.cell? ⟨g, i, none⟩ = some u → (w.setCell ⟨g, k + 1, none⟩ z).cell? ⟨g, i, none⟩ = some u := fun i hi u hu => by
    have h1 : ¬ k + 1 = i := fun e => hi e.symm
    simp [go_sem, hu, hi, h1]
  obtain ⟨u0, hu0⟩ := h.all (k + 1) (by omega)
  have hn : (w.setCell ⟨g, k + 1, none⟩ z).cell? ⟨g, k + 1, none⟩ = some z := World.cell?_setCell_same' w ⟨g, k + 1, none⟩ _ (by rw [hu0]; rfl)
  refine ⟨fun i hi => hs i (by omega) _ (h.at_ i hi), fun i hi => ?_, fun i => ?_⟩
  · by_cases e : i = k + 1
    · subst e; exact ⟨_, hn⟩
    · obtain ⟨u, hu⟩ := h.all i hi
      exact ⟨u, hs i e u hu⟩
  · rw [World.frozen?_setCell]; exact h.fz i
set_option maxHeartbeats 2000000 in
theorem TiledT (g : Nat) (p : Nat → Bool) (w : World) (h : PortsAt w g p) :
    Calls Tryz.prog 94 #[.pointer (some ⟨g, 0, none⟩)] w fun e w' => ∃ v' : Value, e = .returned v' ∧ RowT w' w.heap.size v' (tl p 16 0) ∧ Below w.heap.size w w' := by
  have hg := h.lt
  have hPc : Hid (∀ i, i < 65536 → w.cell? ⟨g, i, none⟩ = some (.bool (p i))) := fun i hi => (h.cell hi).1
  obtain ⟨i0, hi, hz0, hz1, hz2⟩ := info_parts (show (Tryz.prog.info? 3).map (fun i => (i.zero, i.size, i.bytes)) = some (some (.int .i64 0), 1, 8) by kernel_rfl)
  have hmk : ∀ W : World, (Instr.makeSlice 25 (.int .i64 65537) (.int .i64 65537)).run Tryz.prog W = .ok (.slice (some ⟨W.heap.size, 0, none⟩) 65537 65537) (W.alloc (.cells (madeCells #[.int .i64 0] 65537) 3)) := fun W => by
    have := run_make (P := Tryz.prog) W 25 3 i0 (.int .i64 0) Tryz.underlying25 hi hz0 .i64 .i64 65537 65537 (by omega) (Int.le_refl _) (by rw [hz2]; omega) (by omega)
    simpa [hz1, Value.cells] using this
  have HC : Hid (Cts (w.alloc (.cells (madeCells #[.int .i64 0] 65537) 3)) w.heap.size p 0) := by
    have hg1 := heap_alloc_new w (.cells (madeCells #[Value.int .i64 0] 65537) 3)
    have hcell : ∀ i, i ≤ 65536 → (w.alloc (.cells (madeCells #[Value.int .i64 0] 65537) 3)).cell? ⟨w.heap.size, i, none⟩ = some (.int .i64 0) := fun i hi => by
      rw [cell_of_row _ w.heap.size i _ _ (0, 0) hg1, ← Array.getElem?_toList, toList_madeCells_one, List.getElem?_replicate, if_pos (by omega)]
    refine ⟨fun i hi => ?_, fun i hi => ⟨_, hcell i hi⟩, fun i => by unfold World.frozen?; rw [hg1]; simp⟩
    obtain rfl : i = 0 := by omega
    exact hcell 0 (by omega)
  clear h hi hz0 hz1 hz2
  generalize madeCells #[Value.int IntKind.i64 0] 65537 = mc at *
  go_enter Tryz.func94, Tryz.ntmps94
  go_wp2_with (fail)
  go_loopw [4] (fun iv wr => ∃ k : Nat, k ≤ 65536 ∧ iv = .int .i64 k ∧ Hid (Cts wr w.heap.size p k) ∧ Hid (Below w.heap.size w wr)) (fun iv _ => 65536 - (intOf iv).toNat)
  case atStart => exact ⟨0, Nat.zero_le _, rfl, HC.out, (Below.refl _ _).alloc (Nat.le_refl _) _⟩
  case round =>
    obtain ⟨k, hk, rfl, hC, hB⟩ := hrel
    clear hmk HC
    by_cases hlt : k < 65536
    · have hlt' : (k : Int) < 65536 := by omega
      have hk0 : (0 : Int) ≤ (k : Int) := by omega
      have x0 := hC.out.at_ k (Nat.le_refl _)
      obtain ⟨u1, x1⟩ := hC.out.all (k + 1) (by omega)
      have f1 := hC.out.fz (k + 1)
      have y0 : wr.cell? ⟨g, k, none⟩ = some (.bool (p k)) := by rw [hB.out.cell hg]; exact hPc.out k hlt
      have hle := ah_le p k
      have hne : ¬ w.heap.size = g := by omega
      have hne' : ¬ g = w.heap.size := by omega
      have hst : ah p (k + 1) = ah p k + if p k then 1 else 0 := rfl
      have hah : ((ah p k : Nat) : Int) ≤ 65536 := by omega
      cases hp : p k
      · rw [hp] at y0 hst
        have HN : Hid (((ah p k : Nat) : Int) = ((ah p (k + 1) : Nat) : Int)) := by show _ = _; rw [hst]; simp
        clear hst hp
        go_wp2_with (fail)
        go_roundw
        case rel => exact ⟨k + 1, by omega, by go_num, hC.out.next hlt _ HN.out, hB.out.setCell (Nat.le_refl _) _⟩
        case measure => simp [intOf]; omega
      · rw [hp] at y0 hst
        have HN : Hid (((ah p k : Nat) : Int) + 1 = ((ah p (k + 1) : Nat) : Int)) := by show _ = _; rw [hst]; simp
        clear hst hp
        go_wp2_with (fail)
        go_roundw
        case rel => exact ⟨k + 1, by omega, by go_num, (hC.out.junk hlt _).next hlt _ HN.out, (hB.out.setCell (Nat.le_refl _) _).setCell (Nat.le_refl _) _⟩
        case measure => simp [intOf]; omega
    · obtain rfl : k = 65536 := by omega
      have hz := hB.out.size
      have hA : Ahead wr (.slice (some ⟨w.heap.size, 0, none⟩) 65537 65537) p := ⟨w.heap.size, rfl, fun i hi => hC.out.at_ i hi⟩
      have ht := fun W (h : Ahead W (.slice (some ⟨w.heap.size, 0, none⟩) 65537 65537) p) => tiledT p 16 0 0 (.slice (some ⟨w.heap.size, 0, none⟩) 65537 65537) W rfl (by decide) h
      have HA : Hid (Ahead wr (.slice (some ⟨w.heap.size, 0, none⟩) 65537 65537) p) := hA
      clear hA
      go_wp2_with (fail)
      refine (ht _ HA.out).mono ?_
      rintro e w1 ⟨v1, rfl, r1, hb1⟩
      have R1 : Hid (RowT w1 w.heap.size v1 (tl p 16 0)) := r1.base hz
      have B1 : Hid (Below w.heap.size w w1) := hB.out.trans (hb1.mono hz)
      clear r1 hb1 ht HA
      go_wp2_with (fail)
      go_ret
      exact ⟨_, rfl, R1.out, B1.out⟩
end Go.Proofs.YtcjpjofoddpfhaaGreat.Xp
