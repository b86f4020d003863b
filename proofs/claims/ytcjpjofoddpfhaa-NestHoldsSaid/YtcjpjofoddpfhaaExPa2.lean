/-
  tail, Check, Has, Span of package expand: what they hand back.
-/
import Derived.Test.YtcjpjofoddpfhaaExK2
import Derived.Test.YtcjpjofoddpfhaaExPn2
import Derived.Deep.RegionHeld3
import Derived.Deep.DrawnRows
namespace Go.Proofs.Ytcjpjofoddpfhaa.Xp
open Go.RowKit
set_option linter.unusedVariables false
set_option linter.unusedSimpArgs false
attribute [local go_sem ↓] Go.wp_at_zero Go.wp_at_succ

/-- The last k bits, all set. -/
def mk (k : Nat) : Nat := 2 ^ k - 1
theorem mk_lt {k : Nat} (h : k ≤ 16) : mk k < 65536 := by
  have := two_le16 h
  have := two_pos k
  unfold mk; omega
theorem and_mk (b k : Nat) (hb : b < 65536) (hk : k ≤ 16) : bits .and .u16 (b : Int) (mk k : Int) = ((b % 2 ^ k : Nat) : Int) := by
  rw [u16_and_nat b (mk k) hb (mk_lt hk)]
  unfold mk
  rw [and_low]
theorem andNot_mk (q k : Nat) (hq : q < 65536) (hk : k ≤ 16) : bits .andNot .u16 (q : Int) (mk k : Int) = ((q / 2 ^ k * 2 ^ k : Nat) : Int) := by
  rw [u16_andNot_nat q (mk k) hq (mk_lt hk)]
  unfold mk
  rw [andNot_high q k hq hk]
theorem or_mk (b k : Nat) (hb : b < 65536) (hk : k ≤ 16) (h : b % 2 ^ k = 0) : bits .or .u16 (b : Int) (mk k : Int) = ((b + 2 ^ k - 1 : Nat) : Int) := by
  rw [u16_or_nat b (mk k) hb (mk_lt hk)]
  unfold mk
  rw [or_top b k h]
theorem tailT (n : Nat) (hn : n ≤ 16) (w : World) :
    Calls Try.prog 70 #[.int .i64 n] w fun e w' => e = .returned (.int .u16 (mk (16 - n) : Int)) ∧ w' = w := by
  have h0 : (0 : Int) ≤ (n : Int) := by omega
  have h1 : (n : Int) ≤ 16 := by omega
  have ht : (65535 : Int) / 2 ^ n = (mk (16 - n) : Int) := tail_int n hn
  go_enter Try.func70, Try.ntmps70
  go_wp2
  go_ret
  exact ⟨rfl, rfl⟩
end Go.Proofs.Ytcjpjofoddpfhaa.Xp
