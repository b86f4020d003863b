/-
  The header of some bytes; small functions.
-/
import Derived.Test.YthfjdoenofkghaaHdU
import Derived.Deep.RegionHeld3
import Derived.Lib.Bytealg
namespace Go.Proofs.Ythfjdoenofkghaa
open Go.RowKit
set_option linter.unusedVariables false
set_option linter.unusedSimpArgs false

theorem bset {B : Nat} {a w : World} (h : Below B a w) (i : Nat) (v : Value) : Below B a (w.setCell ⟨B, i, none⟩ v) := h.setCell (Nat.le_refl _) _
theorem wp_region_drn {P : Program} {id : Nat} {Q : Exit → Act → World → Prop} {a : Act} {w : World} {l : List Oper} (W : World) (hW : w = W) (hm : P.follows .mixedOrders = true) (hB : Region.lexB .any l.toArray = true)
    (h : wpQuiet P l.toArray (fun w' => ∃ n : Nat, w' = W.drewN n) (fun a' => ∀ w', (∃ n : Nat, w' = W.drewN n) → Q .normal a' w') l a) : (Code.region id l.toArray true).wp P Q a w :=
  wp_region_quiet (C := fun w' => ∃ n : Nat, w' = W.drewN n) hm hB ⟨1, by subst hW; rfl⟩ (by simpa using h)
theorem drn_call {P : Program} {f : FuncId} {args : Array Value} {W : World} {x : Nat} {v : Value}
    (h : Calls P f args (W.drewN x) fun e w' => e = .returned v ∧ ∃ n, w' = (W.drewN x).drewN n) : Calls P f args (W.drewN x) fun e w'' => e = .returned v ∧ ∃ y : Nat, w'' = W.drewN y :=
  h.mono fun _ w' ⟨he, n, hn⟩ => ⟨he, x + n, by rw [hn]; simp [World.drewN, Nat.add_assoc]⟩
/-- How many bits a byte has, from its highest 1 on. -/
def len8 (x : Nat) : Nat := if x = 0 then 0 else Nat.log2 x + 1
theorem len8_le {x : Nat} (hx : x < 256) : len8 x ≤ 8 := by
  unfold len8
  split
  · omega
  · have : Nat.log2 x < 8 := (Nat.log2_lt (by omega)).2 hx
    omega
end Go.Proofs.Ythfjdoenofkghaa
