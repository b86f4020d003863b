/-
  The document's line (quintetref09): a line's tokens up to what is wrong. Written by tools/mkLxL.py.
-/
import Derived.Test.YtehedlgdencboabGreatDoorLxR
import Derived.Test.YtehedlgdencboabGreatDoorBxW
import Derived.Deep.AppendLies
namespace Go.Proofs.YtehedlgdencboabGreatDoor
open Go.RowKit
set_option linter.unusedVariables false
set_option linter.unusedSimpArgs false

theorem results_blk3 {P : Program} {fn : Func} {tmps : Array Value} {w : World} {t u : Tmp} {ty T : TypeId} {d : TypeDesc} {B : Nat} {cs : Array Value} {fr : Nat × Nat} (h : fn.results = #[.tmp u, .cell t ty]) (hp : tmps.getD t undef = .pointer (some ⟨B, 0, none⟩))
    (hb : w.heap[B]? = some (.cells cs T fr)) (hu : P.underlying ty = some d) (hd : d.isRow = true) (hi : (P.info? ty).map (·.size) = some cs.size) : (results fn tmps).run P w = .ok (.tuple #[tmps.getD u undef, .agg cs]) w := by
  have hl := run_loadVar_mid (P := P) w B 0 ty cs.toList d (by have := World.rangeAt_of_block hb 0 cs.size; simpa using this) hu hd (by simpa using hi)
  have hp2 : tmps[t]?.getD undef = .pointer (some ⟨B, 0, none⟩) := by simpa using hp
  simp [results, h, hp2, asAddr, hl]
theorem RowT.only {w w' : World} {b B : Nat} {v : Value} {l : List Tk} (h : RowT w b v l) (ho : Only B w w') (hB : B < b) : RowT w' b v l := by
  refine ⟨h.1, ?_⟩
  rcases h.2 with h2 | ⟨g, cap, cur, hv, hg, hh, r⟩
  · exact .inl h2
  · exact .inr ⟨g, cap, cur, hv, hg, by rw [ho.block g (by omega)]; exact hh, r⟩
theorem RowT.one2 (w : World) (b : Nat) (k v l c : Nat) (t : ByteArray) {B : Nat} {K V L C : Int} (hB : B = w.heap.size) (hk : K = (k : Int)) (hv : V = (v : Int)) (hl : L = (l : Int)) (hc : C = (c : Int)) (hb : b ≤ w.heap.size) : RowT (w.alloc (.cells #[.int .i64 K, .string t, .int .u32 V, .int .i64 L, .int .i64 C] 84)) b (.slice (some ⟨B, 0, none⟩) 1 1) [⟨k, t, v, l, c⟩] := by
  subst hB hk hv hl hc; exact RowT.one w b ⟨k, t, v, l, c⟩ hb
theorem bel_al {n : Nat} {w wr : World} (h : Below n w wr) (o : Obj) : n ≤ w.heap.size → Below n w (wr.alloc o) := fun hn => h.alloc (Nat.le_trans hn h.size) o
theorem slS (s : ByteArray) (i j : Nat) (h1 : i ≤ j) (h2 : j ≤ s.size) (w : World) : (Instr.slice 9 (.string s) (some (.int .i64 (i : Int))) (some (.int .i64 (j : Int))) none).run Tryz.prog w = .ok (.string (s.extract i j)) w := by
  have := run_slice_string (P := Tryz.prog) w 9 s .i64 .i64 (i : Int) (j : Int) Tryz.underlying9 (by omega) (by omega) (by omega)
  simpa using this
theorem numF_ex (s : ByteArray) (i E : Nat) : ∀ k, i + k ≤ E → E ≤ s.size → numF (s.extract i E) 0 k = numF s i k
  | 0, _, _ => rfl
  | k + 1, h1, h2 => by
    show 10 * numF (s.extract i E) 0 k + (bt (s.extract i E) (0 + k) - 48) = 10 * numF s i k + (bt s (i + k) - 48)
    rw [numF_ex s i E k (by omega) h2, Nat.zero_add, bt_ex s i E k (by omega) h2]
theorem numOk_ex (s : ByteArray) (i E : Nat) (h : i < E) (h2 : E ≤ s.size) : numOk (s.extract i E) 0 (s.extract i E).size = numOk s i E := by
  unfold numOk
  rw [ex_size s i E (Nat.le_of_lt h) h2, Nat.sub_zero, numF_ex s i E (E - i) (by omega) h2, bt_ex s i E 0 (by omega) h2, Nat.add_zero]
end Go.Proofs.YtehedlgdencboabGreatDoor
