/-
  The library's stable sort of a slice of int: the comparison, ranges exchanged.
-/
import Derived.Test.YtlfdlifmcabfjaaCvSb
import Derived.Test.YtlfdlifmcabfjaaCvA
import Derived.CellFam
import Derived.Deep.Draws
import Derived.BigGuard
import Derived.BigCall
import Derived.Test.YtlfdlifmcabfjaaBxW
namespace Go.Proofs.Ytlfdlifmcabfjaa
open Go.RowKit Go.Sort
set_option linter.unusedVariables false
set_option linter.unusedSimpArgs false

abbrev eI : Int → Value := Value.int .i64
theorem pr_drewN (w : World) (m q blk off : Nat) (d : Array Int) : (putRow eI (Sort.ahead w m) blk off d).drewN q = putRow eI (Sort.ahead w (m + q)) blk off d := by
  show Sort.ahead (putRow eI (Sort.ahead w m) blk off d) q = _
  rw [putRow_ahead eI w m, ahead_ahead, ← putRow_ahead]
theorem pr_swap (w : World) (m q blk off : Nat) (d : Array Int) (j k : Nat) (hj : j < d.size) (hk : k < d.size) :
    (((putRow eI (Sort.ahead w m) blk off d).drewN q).setCell ⟨blk, off + j, none⟩ (eI d[k]!)).setCell ⟨blk, off + k, none⟩ (eI d[j]!) = putRow eI (Sort.ahead w (m + q)) blk off (swp d j k) := by
  rw [pr_drewN]
  exact putRow_swp eI _ blk off d j k hj hk
theorem pr_swapD (w wr : World) (m blk off : Nat) (d : Array Int) (j k : Nat) (x y : Int) (hw : wr = putRow eI (Sort.ahead w m) blk off d) (hx : x = d[k]!) (hy : y = d[j]!) (hj : j < d.size) (hk : k < d.size) :
    ((wr.setCell ⟨blk, off + j, none⟩ (eI x)).setCell ⟨blk, off + k, none⟩ (eI y)).drew = putRow eI (Sort.ahead w (m + 1)) blk off (swp d j k) := by
  rw [hw, hx, hy, putRow_swp eI _ blk off d j k hj hk]
  exact pr_drewN w m 1 blk off (swp d j k)
theorem pr_swapN (w wr : World) (m n blk off : Nat) (d : Array Int) (j k : Nat) (x y : Int) (hw : wr = putRow eI (Sort.ahead w m) blk off d) (hx : x = d[k]!) (hy : y = d[j]!) (hj : j < d.size) (hk : k < d.size) :
    (((wr.drewN n).setCell ⟨blk, off + j, none⟩ (eI x)).setCell ⟨blk, off + k, none⟩ (eI y)).drew = putRow eI (Sort.ahead w (m + n + 1)) blk off (swp d j k) := by
  rw [hw, hx, hy, pr_drewN, putRow_swp eI _ blk off d j k hj hk]
  exact pr_drewN w (m + n) 1 blk off (swp d j k)
theorem pr_other (w : World) (m blk off : Nat) (d : Array Int) (k : Nat) (h : k ≠ blk) : (putRow eI (Sort.ahead w m) blk off d).heap[k]? = w.heap[k]? := by
  simp only [putRow, mapBlock, Array.getElem?_modify]
  rw [if_neg (Ne.symm h)]; rfl
def cmpV (a b : Int) : Int := if a < b then -1 else if b < a then 1 else 0
theorem cmpV_lt {a b : Int} : cmpV a b < 0 ↔ a < b := by
  unfold cmpV
  by_cases h : a < b
  · rw [if_pos h]; omega
  · rw [if_neg h]; split <;> omega
theorem cmpC (x y : Int) (w : World) : Calls Try.prog 38 #[.int .i64 x, .int .i64 y] w fun e w' => e = .returned (.int .i64 (cmpV x y)) ∧ w' = w := by
  unfold cmpV
  by_cases h1 : x < y
  · rw [if_pos h1]
    go_enter Try.func38, Try.ntmps38
    go_wp2
    go_ret
    exact ⟨rfl, rfl⟩
  · rw [if_neg h1]
    by_cases h2 : y < x
    · rw [if_pos h2]
      go_enter Try.func38, Try.ntmps38
      go_wp2
      go_ret
      exact ⟨rfl, rfl⟩
    · rw [if_neg h2]
      go_enter Try.func38, Try.ntmps38
      go_wp2
      go_ret
      exact ⟨rfl, rfl⟩
/-- The keys, in a row of their own, that the closure has captured. -/
def Al (w : World) (AB AL n : Nat) (ks : Int → Int) : Prop := w.heap[AB]? = some (.cells #[.slice (some ⟨AL, 0, none⟩) n n] 46) ∧ ∀ k : Nat, k < n → w.cell? ⟨AL, k, none⟩ = some (.int .i64 (ks (k : Int)))
set_option maxHeartbeats 1000000 in
theorem lessC (AB AL n : Nat) (ks : Int → Int) (x y : Nat) (w : World) (h : Al w AB AL n ks) (hx : x < n) (hy : y < n) (hn : n ≤ 1000000) :
    Calls Try.prog 37 #[.int .i64 (x : Int), .int .i64 (y : Int), .pointer (some ⟨AB, 0, none⟩)] w fun e w' => e = .returned (.int .i64 (cmpV (ks x) (ks y))) ∧ ∃ q, w' = w.drewN q := by
  have c0 := blk_cell h.1 (j := 0) rfl
  have cx := h.2 x hx
  have cy := h.2 y hy
  have hxi : (x : Int) < (n : Int) := by omega
  have hyi : (y : Int) < (n : Int) := by omega
  clear h
  go_enter Try.func37, Try.ntmps37
  go_wp2
  go_quiet (first | (go_at_call 38; refine Calls.quiet_of_same (cmpC _ _ _)))
  go_wp2
  go_ret
  exact ⟨rfl, nq, rfl⟩
set_option maxHeartbeats 2000000 in
theorem swapRangeC (blk off cap a b n : Nat) (fv : Value) (d : Array Int) (w : World) (hH : Holds eI w blk off d) (h1 : a + n ≤ b) (h2 : b + n ≤ d.size) (hsz : d.size ≤ 1000000) :
    Calls Try.prog 55 #[.slice (some ⟨blk, off, none⟩) d.size cap, .int .i64 a, .int .i64 b, .int .i64 n, fv] w fun e w' => e = .returned (.tuple #[]) ∧ ∃ q d', w' = putRow eI (Sort.ahead w q) blk off d' ∧ Via (srF a b n) d d' := by
  obtain ⟨sz, hsz2⟩ : ∃ sz, sz = d.size := ⟨_, rfl⟩
  rw [← hsz2] at h2 hsz ⊢
  have HZ : Hid (sz = d.size) := hsz2
  clear hsz2
  go_enter Try.func55, Try.ntmps55
  go_wp2
  go_loopw [10] (fun vi wr => ∃ (i q : Nat) (dk : Array Int), vi = .int .i64 (i : Int) ∧ i ≤ n ∧ wr = putRow eI (Sort.ahead w q) blk off dk ∧ Via (srF a b i) d dk) (fun vi _ => n - (intOf vi).toNat)
  case atStart => exact ⟨0, 0, d, rfl, Nat.zero_le _, (putRow_self _ _ _ _ _ hH).symm, sr_zero a b d⟩
  case round =>
    obtain ⟨i, q, dk, rfl, hi, hw2, hv⟩ := hrel
    have hsk : dk.size = sz := by rw [HZ.out]; exact hv.1
    by_cases hlt : i < n
    · obtain ⟨G, hG⟩ : ∃ G : Nat → Int, ∀ t, G t = dk[t]! := ⟨fun t => dk[t]!, fun _ => rfl⟩
      have hcw : ∀ t, t < sz → wr.cell? ⟨blk, off + t, none⟩ = some (.int .i64 (G t)) := fun t ht => by
        rw [hw2, hG]; exact cell?_putRow _ _ _ _ d dk (holds_ahead _ _ _ _ _ _ hH) (by rw [hsk]; exact HZ.out) t (by omega)
      have hfw : ∀ t, t < sz → wr.frozen? ⟨blk, off + t, none⟩ = false := fun t ht => by
        rw [hw2, frozen?_putRow]; exact ((holds_ahead _ _ q _ _ _ hH) t (by rw [← HZ.out]; exact ht)).2
      have HW : Hid (wr = putRow eI (Sort.ahead w q) blk off dk) := hw2
      have HG : Hid (∀ t, G t = dk[t]!) := hG
      have HV : Hid (Via (srF a b i) d dk) := hv
      clear hw2 hG hv hH
      go_wp2
      go_region
      all_goals go_wp2
      exact ⟨⟨i + 1, q + 1, swp dk (a + i) (b + i), by go_num, by omega, pr_swapD w wr q blk off dk _ _ _ _ HW.out (HG.out _) (HG.out _) (by omega) (by omega), sr_step HV.out (by omega) (by rw [← HZ.out]; omega)⟩, by simp [intOf]; omega⟩
    · obtain rfl : i = n := by omega
      have HW : Hid (wr = putRow eI (Sort.ahead w q) blk off dk) := hw2
      clear hw2
      go_wp2
      go_end0
      exact ⟨rfl, q, dk, HW.out, hv⟩
end Go.Proofs.Ytlfdlifmcabfjaa
