/-
  What Common of the document's answer hands back.
-/
import Derived.Test.YthmekipdhlipbaaPxS
namespace Go.Proofs.Ythmekipdhlipbaa
open Go.RowKit
set_option linter.unusedVariables false
set_option linter.unusedSimpArgs false
attribute [local go_sem ↓] Go.wp_at_zero Go.wp_at_succ

theorem cell_on {W w1 : World} (hb : Below W.heap.size W w1) {p : Addr} {v : Value} (h : W.cell? p = some v) : w1.cell? p = some v := (hb.cell (World.block_lt_of_cell? W p h)).trans h
theorem frozen_on {W w1 : World} (hb : Below W.heap.size W w1) {p : Addr} {v : Value} (h : W.cell? p = some v) {c : Bool} (hf : W.frozen? p = c) : w1.frozen? p = c := (hb.frozen (World.block_lt_of_cell? W p h)).trans hf
theorem cell_alloc {W : World} {o : Obj} {p : Addr} {v : Value} (h : W.cell? p = some v) : (W.alloc o).cell? p = some v := (World.cell?_alloc_lt W o p (World.block_lt_of_cell? W p h)).trans h
theorem frozen_alloc {W : World} {o : Obj} {b i : Nat} {v : Value} (h : W.cell? ⟨b, i, none⟩ = some v) {c : Bool} (hf : W.frozen? ⟨b, i, none⟩ = c) : (W.alloc o).frozen? ⟨b, i, none⟩ = c := (World.frozen?_alloc_past o b i (World.block_lt_of_cell? W _ h)).trans hf
end Go.Proofs.Ythmekipdhlipbaa
