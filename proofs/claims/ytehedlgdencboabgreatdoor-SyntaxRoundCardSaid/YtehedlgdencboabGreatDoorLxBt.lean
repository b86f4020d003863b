/-
  All but one block as it was (But): rows, the listed variables.
-/
import Derived.Test.YtehedlgdencboabGreatDoorLxIs
import Derived.Test.YtehedlgdencboabGreatDoorLxU
namespace Go.Proofs.YtehedlgdencboabGreatDoor
open Go.RowKit
set_option linter.unusedVariables false

theorem But.refl (B : Nat) (w : World) : But B w w := ⟨rfl, rfl, rfl, Nat.le_refl _, fun _ _ _ => rfl⟩
theorem But.only {B : Nat} {w w1 w2 : World} (h : But B w w1) (ho : Only B w1 w2) : But B w w2 :=
  ⟨ho.os.trans h.os, ho.tape.trans h.tape, ho.output.trans h.output, by rw [ho.size]; exact h.size, fun k hk hne => (ho.block k hne).trans (h.block k hk hne)⟩
theorem But.at {B : Nat} {w w' : World} (h : But B w w') {b i : Nat} {v : Value} (hv : w.cell? ⟨b, i, none⟩ = some v) (hne : b ≠ B) : w'.cell? ⟨b, i, none⟩ = some v := by
  have hlt : b < w.heap.size := World.block_lt_of_cell? _ _ hv
  rw [← hv]
  unfold World.cell?
  rw [h.block _ hlt hne]
theorem But.cell {B : Nat} {w w' : World} (h : But B w w') (hg : Hnd w) (hne : 8 < B) : Hnd w' := by
  obtain ⟨tp, p, he⟩ := hg.er
  exact ⟨h.at hg.h (by omega), ⟨tp, p, h.at he (by omega)⟩, fun x hx => h.at (hg.tab x hx) (by omega)⟩
theorem But.row {B b : Nat} {w w' : World} {v : Value} {l : List Tk} (h : But B w w') (hr : RowT w b v l) (hne : some B ≠ v.ownBlock) : RowT w' b v l := by
  refine ⟨hr.1, ?_⟩
  rcases hr.2 with h2 | ⟨g, cap, cur, hv, hg, hh, r⟩
  · exact .inl h2
  · exact .inr ⟨g, cap, cur, hv, hg, by rw [h.block g (blk_lt hh) (fun e => hne (by rw [hv, ← e]; rfl))]; exact hh, r⟩
end Go.Proofs.YtehedlgdencboabGreatDoor
