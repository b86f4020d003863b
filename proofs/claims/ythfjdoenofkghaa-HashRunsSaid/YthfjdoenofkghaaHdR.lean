/-
  What the small functions of the document's answer hand back: high, low, Pack, Unpack, bit, Bit.
-/
import Derived.Test.YthfjdoenofkghaaHdU
import Derived.Deep.RegionHeld3
import Derived.Deep.DrawnRows
namespace Go.Proofs.Ythfjdoenofkghaa
open Go.RowKit
set_option linter.unusedVariables false
set_option linter.unusedSimpArgs false
attribute [local go_sem ↓] Go.wp_at_zero Go.wp_at_succ

/-- So many bytes of a number, the highest first. -/
def hiL (n : Nat) : Nat → List Nat
  | 0 => []
  | m + 1 => n / 2 ^ (8 * m) % 256 :: hiL n m
theorem hiL_len (n : Nat) : ∀ m, (hiL n m).length = m
  | 0 => rfl
  | m + 1 => by unfold hiL; rw [List.length_cons, hiL_len n m]
theorem pack_hi {h : Hd} (o : OkH h) : ((((([] ++ hiL h.s 4) ++ hiL h.d 4) ++ hiL h.p 2) ++ hiL h.q 2) ++ hiL h.r 1) = bytesH h := by
  simp [hiL, bytesH]
theorem SrcB.part {w : World} {l : List Nat} {g off n a m c : Nat} (h : ∀ k (hk : k < l.length), w.cell? ⟨g, off + k, none⟩ = some (.int .u8 ((l[k]'hk : Nat) : Int))) (hm : a + m ≤ l.length) (hn : n = m) (hmc : m ≤ c) : SrcB w (.slice (some ⟨g, off + a, none⟩) n c) ((l.drop a).take m) := by
  have hlen : ((l.drop a).take m).length = m := by rw [List.length_take, List.length_drop]; omega
  refine ⟨_, c, by rw [hlen, hn], by omega, fun _ => ⟨g, off + a, rfl, fun k hk => ?_⟩⟩
  rw [hlen] at hk
  have := h (a + k) (by omega)
  rw [Nat.add_assoc, this]
  congr 3
  rw [List.getElem_take, List.getElem_drop]
theorem hdB_nums (l : List Nat) (h : l.length = 13) : (hdB l).r = l[12] := by
  obtain ⟨a0, a1, a2, a3, a4, a5, a6, a7, a8, a9, b0, b1, b2, rfl⟩ := len13 h
  rw [hdB_is]; simp
end Go.Proofs.Ythfjdoenofkghaa
