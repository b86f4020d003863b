/-
  What Same, Low, Ones and Turn of package bits, and of the document's answer, hand back: one contract a function, for every world; Ones where the table of the ones of four bits lies in its variable.
-/
import Derived.Test.YtejcckkekjkmlaaDoorWalkA
namespace Go.Proofs.YtejcckkekjkmlaaDoor
open Go.RowKit

theorem same_any (a b : Nat) (w : World) (ha : a < 4294967296) (hb : b < 4294967296) :
    Calls Tryd.prog 17 #[.int .u32 a, .int .u32 b] w fun e w' => e = .returned (.int .i64 (sm a b 32 0 : Int)) ∧ w' = w := by
  go_enter Tryd.func17, Tryd.ntmps17
  go_wp2
  go_loop [6] (fun i => ∃ k : Nat, k ≤ 32 ∧ i = .int .i64 k ∧ Hid (sm a b (32 - k) k = sm a b 32 0)) (fun i => 32 - (intOf i).toNat)
  case atStart => exact ⟨0, Nat.zero_le _, rfl, rfl⟩
  case round =>
    obtain ⟨k, hk, rfl, hs⟩ := hrel
    by_cases hlt : k < 32
    · by_cases he : tb a k = tb b k
      · have HE : Hid (tb a k = tb b k) := he
        have h1 : ((tb a k : Int) != (tb b k : Int)) = false := by rw [he]; simp
        clear he
        go_wp2_with (go_at_call 28; refine (bit_any _ k _ (by assumption) (by omega)).mono ?_; rintro e w' ⟨rfl, rfl⟩)
        go_round
        case rel => exact ⟨k + 1, by omega, by go_num, (sm_hit a b k hlt HE.out).trans hs.out⟩
        case measure => simp [intOf]; omega
      · have HE : Hid (tb a k ≠ tb b k) := he
        have h1 : ((tb a k : Int) != (tb b k : Int)) = true := by simp; omega
        clear he
        go_wp2_with (go_at_call 28; refine (bit_any _ k _ (by assumption) (by omega)).mono ?_; rintro e w' ⟨rfl, rfl⟩)
        go_ret
        exact ⟨ret_int (by rw [← hs.out, sm_out a b k hlt HE.out]), rfl⟩
    · obtain rfl : k = 32 := by omega
      go_wp2
      go_ret
      exact ⟨ret_int (by rw [← hs.out]; rfl), rfl⟩
theorem rsame_any (a b : Nat) (w : World) (ha : a < 4294967296) (hb : b < 4294967296) :
    Calls Tryd.prog 16 #[.int .u32 a, .int .u32 b] w fun e w' => e = .returned (.int .i64 (sm a b 32 0 : Int)) ∧ Below w.heap.size w w' := by
  go_enter Tryd.func16, Tryd.ntmps16
  go_wp2
  go_loopw [5] (fun i wr => ∃ k : Nat, k ≤ 32 ∧ i = .int .i64 k ∧ Hid (sm a b (32 - k) k = sm a b 32 0) ∧ Below w.heap.size w wr) (fun i _ => 32 - (intOf i).toNat)
  case atStart => exact ⟨0, Nat.zero_le _, rfl, rfl, Below.refl _ _⟩
  case round =>
    obtain ⟨k, hk, rfl, hs, hbel⟩ := hrel
    have hA := and_top a k ha
    have hB := and_top b k hb
    by_cases hlt : k < 32
    · by_cases he : tb a k = tb b k
      · have HE : Hid (tb a k = tb b k) := he
        have h1 : ((tb a k : Int) != (tb b k : Int)) = false := by rw [he]; simp
        clear he
        go_wp2
        go_quiet (fail)
        go_wp2
        go_roundw
        case rel => exact ⟨k + 1, by omega, by go_num, (sm_hit a b k hlt HE.out).trans hs.out, below_drewN hbel _⟩
        case measure => simp [intOf]; omega
      · have HE : Hid (tb a k ≠ tb b k) := he
        have h1 : ((tb a k : Int) != (tb b k : Int)) = true := by simp; omega
        clear he
        go_wp2
        go_quiet (fail)
        go_wp2
        go_ret
        exact ⟨ret_int (by rw [← hs.out, sm_out a b k hlt HE.out]), below_drewN hbel _⟩
    · obtain rfl : k = 32 := by omega
      go_wp2
      go_ret
      exact ⟨ret_int (by rw [← hs.out]; rfl), hbel⟩

theorem low_any (a : Nat) (w : World) (ha : a < 4294967296) :
    Calls Tryd.prog 18 #[.int .u32 a] w fun e w' => e = .returned (.int .i64 (lo a 32 0 : Int)) ∧ w' = w := by
  go_enter Tryd.func18, Tryd.ntmps18
  go_wp2
  go_loop [4] (fun i => ∃ k : Nat, k ≤ 32 ∧ i = .int .i64 k ∧ Hid (lo a (32 - k) k = lo a 32 0)) (fun i => 32 - (intOf i).toNat)
  case atStart => exact ⟨0, Nat.zero_le _, rfl, rfl⟩
  case round =>
    obtain ⟨k, hk, rfl, hs⟩ := hrel
    by_cases hlt : k < 32
    · have hc : ∀ w1, Calls Tryd.prog 28 #[.int .u32 a, .int .i64 (31 - (k : Int))] w1 fun e w' => e = .returned (.int .i64 (lb a k : Int)) ∧ w' = w1 := fun w1 => by
        have := bit_any a (31 - k) w1 ha (by omega)
        rw [tb_lb a k (by omega), show ((31 - k : Nat) : Int) = 31 - (k : Int) by omega] at this
        exact this
      have HC : Hid (∀ w1, Calls Tryd.prog 28 #[.int .u32 a, .int .i64 (31 - (k : Int))] w1 fun e w' => e = .returned (.int .i64 (lb a k : Int)) ∧ w' = w1) := hc
      clear hc
      by_cases he : lb a k = 1
      · have HE : Hid (lb a k = 1) := he
        have h1 : ((lb a k : Int) == 1) = true := by rw [he]; simp
        clear he
        go_wp2_with (go_at_call 28; refine (HC.out _).mono ?_; rintro e w' ⟨rfl, rfl⟩)
        go_ret
        exact ⟨ret_int (by rw [← hs.out, lo_out a k hlt HE.out]), rfl⟩
      · have HE : Hid (lb a k ≠ 1) := he
        have h1 : ((lb a k : Int) == 1) = false := by simp; omega
        clear he
        go_wp2_with (go_at_call 28; refine (HC.out _).mono ?_; rintro e w' ⟨rfl, rfl⟩)
        go_round
        case rel => exact ⟨k + 1, by omega, by go_num, (lo_hit a k hlt HE.out).trans hs.out⟩
        case measure => simp [intOf]; omega
    · obtain rfl : k = 32 := by omega
      go_wp2
      go_ret
      exact ⟨ret_int (by rw [← hs.out]; rfl), rfl⟩
theorem rlow_any (a : Nat) (w : World) (ha : a < 4294967296) :
    Calls Tryd.prog 19 #[.int .u32 a] w fun e w' => e = .returned (.int .i64 (lo a 32 0 : Int)) ∧ w' = w := by
  go_enter Tryd.func19, Tryd.ntmps19
  go_wp2
  go_loop [3] (fun i => ∃ k : Nat, k ≤ 32 ∧ i = .int .i64 k ∧ Hid (lo a (32 - k) k = lo a 32 0)) (fun i => 32 - (intOf i).toNat)
  case atStart => exact ⟨0, Nat.zero_le _, rfl, rfl⟩
  case round =>
    obtain ⟨k, hk, rfl, hs⟩ := hrel
    have hA := and_one a k ha
    by_cases hlt : k < 32
    · by_cases he : lb a k = 1
      · have HE : Hid (lb a k = 1) := he
        have h1 : ((lb a k : Int) == 1) = true := by rw [he]; simp
        clear he
        go_wp2
        go_ret
        exact ⟨ret_int (by rw [← hs.out, lo_out a k hlt HE.out]), rfl⟩
      · have HE : Hid (lb a k ≠ 1) := he
        have h1 : ((lb a k : Int) == 1) = false := by simp; omega
        clear he
        go_wp2
        go_round
        case rel => exact ⟨k + 1, by omega, by go_num, (lo_hit a k hlt HE.out).trans hs.out⟩
        case measure => simp [intOf]; omega
    · obtain rfl : k = 32 := by omega
      go_wp2
      go_ret
      exact ⟨ret_int (by rw [← hs.out]; rfl), rfl⟩

/-- The table of the ones of four bits lies in its variable. -/
structure Tab (w : World) : Prop where
  cell : ∀ x, x < 16 → w.cell? ⟨0, x, none⟩ = some (.int .i64 (tab[x]?.getD 0))
  size : 0 < w.heap.size
theorem Tab.below {w w' : World} (h : Tab w) (hb : Below w.heap.size w w') : Tab w' :=
  ⟨fun x hx => (hb.cell (p := ⟨0, x, none⟩) h.size).trans (h.cell x hx), Nat.lt_of_lt_of_le h.size hb.size⟩

theorem ones_any (a : Nat) (w : World) (ha : a < 4294967296) (ht : Tab w) :
    Calls Tryd.prog 20 #[.int .u32 a] w fun e w' => e = .returned (.int .i64 (ones a 32 : Int)) ∧ w' = w := by
  have HT : Hid (Tab w) := ht
  clear ht
  go_enter Tryd.func20, Tryd.ntmps20
  go_wp2
  go_loop [3, 5] (fun s i => ∃ k : Nat, k ≤ 8 ∧ i = .int .i64 k ∧ s = .int .i64 (ones a (4 * k) : Int)) (fun _ i => 8 - (intOf i).toNat)
  case atStart => exact ⟨0, Nat.zero_le _, rfl, rfl⟩
  case round =>
    obtain ⟨k, hk, rfl, rfl⟩ := hrel
    have hA := and_four a (4 * k) ha
    have hx : a / 2 ^ (4 * k) % 16 < 16 := Nat.mod_lt _ (by decide)
    have hcell := HT.out.cell _ hx
    have htl := tab_le _ hx
    have hol := ones_le a (4 * k)
    have HO : Hid ((ones a (4 * k) : Int) + tab[a / 2 ^ (4 * k) % 16]?.getD 0 = (ones a (4 * (k + 1)) : Int)) := ones_four a k
    generalize a / 2 ^ (4 * k) % 16 = x at hA hx hcell htl HO
    generalize tab[x]?.getD 0 = y at hcell htl HO
    by_cases hlt : k < 8
    · go_wp2
      go_round
      case rel => exact ⟨k + 1, by omega, by go_num, by rw [← HO.out]⟩
      case measure => simp [intOf]; omega
    · obtain rfl : k = 8 := by omega
      go_wp2
      go_ret
      exact ⟨rfl, rfl⟩
theorem rones_any (a : Nat) (w : World) (ha : a < 4294967296) :
    Calls Tryd.prog 21 #[.int .u32 a] w fun e w' => e = .returned (.int .i64 (ones a 32 : Int)) ∧ w' = w := by
  go_enter Tryd.func21, Tryd.ntmps21
  go_wp2
  go_loop [3, 4] (fun s i => ∃ k : Nat, k ≤ 32 ∧ i = .int .i64 k ∧ s = .int .i64 (ones a k : Int)) (fun _ i => 32 - (intOf i).toNat)
  case atStart => exact ⟨0, Nat.zero_le _, rfl, rfl⟩
  case round =>
    obtain ⟨k, hk, rfl, rfl⟩ := hrel
    have hA := and_one a k ha
    have hl := lb_lt a k
    have hol := ones_le a k
    by_cases hlt : k < 32
    · go_wp2
      go_round
      case rel => exact ⟨k + 1, by omega, by go_num, by simp [ones]⟩
      case measure => simp [intOf]; omega
    · obtain rfl : k = 32 := by omega
      go_wp2
      go_ret
      exact ⟨rfl, rfl⟩

theorem turn_any (a : Nat) (w : World) (ha : a < 4294967296) :
    Calls Tryd.prog 22 #[.int .u32 a] w fun e w' => e = .returned (.int .u32 (turned a 32 : Int)) ∧ w' = w := by
  go_enter Tryd.func22, Tryd.ntmps22
  go_wp2
  go_loop [3, 5] (fun t i => ∃ k : Nat, k ≤ 32 ∧ i = .int .i64 k ∧ t = .int .u32 (turned a k : Int)) (fun _ i => 32 - (intOf i).toNat)
  case atStart => exact ⟨0, Nat.zero_le _, rfl, rfl⟩
  case round =>
    obtain ⟨k, hk, rfl, rfl⟩ := hrel
    by_cases hlt : k < 32
    · have hc : ∀ w1, Calls Tryd.prog 28 #[.int .u32 a, .int .i64 (31 - (k : Int))] w1 fun e w' => e = .returned (.int .i64 (lb a k : Int)) ∧ w' = w1 := fun w1 => by
        have := bit_any a (31 - k) w1 ha (by omega)
        rw [tb_lb a k (by omega), show ((31 - k : Nat) : Int) = 31 - (k : Int) by omega] at this
        exact this
      have HC : Hid (∀ w1, Calls Tryd.prog 28 #[.int .u32 a, .int .i64 (31 - (k : Int))] w1 fun e w' => e = .returned (.int .i64 (lb a k : Int)) ∧ w' = w1) := hc
      clear hc
      by_cases he : lb a k = 1
      · have HE : Hid (lb a k = 1) := he
        have h1 : ((lb a k : Int) == 1) = true := by rw [he]; simp
        clear he
        go_wp2_with (first | (go_at_call 28; refine (HC.out _).mono ?_; rintro e w' ⟨rfl, rfl⟩) | (go_at_call 27; refine (single_any k _ (by omega)).mono ?_; rintro e w' ⟨rfl, rfl⟩))
        go_round
        case rel => exact ⟨k + 1, by omega, by go_num, by rw [or_turned_one2 a k hlt HE.out]⟩
        case measure => simp [intOf]; omega
      · have HE : Hid (lb a k ≠ 1) := he
        have h1 : ((lb a k : Int) == 1) = false := by simp; omega
        clear he
        go_wp2_with (first | (go_at_call 28; refine (HC.out _).mono ?_; rintro e w' ⟨rfl, rfl⟩) | (go_at_call 27; refine (single_any k _ (by omega)).mono ?_; rintro e w' ⟨rfl, rfl⟩))
        go_round
        case rel => exact ⟨k + 1, by omega, by go_num, by rw [turned_zero a k HE.out]⟩
        case measure => simp [intOf]; omega
    · obtain rfl : k = 32 := by omega
      go_wp2
      go_ret
      exact ⟨rfl, rfl⟩
theorem rturn_any (a : Nat) (w : World) (ha : a < 4294967296) :
    Calls Tryd.prog 23 #[.int .u32 a] w fun e w' => e = .returned (.int .u32 (turned a 32 : Int)) ∧ w' = w := by
  go_enter Tryd.func23, Tryd.ntmps23
  go_wp2
  go_loop [3, 4] (fun t i => ∃ k : Nat, k ≤ 32 ∧ i = .int .i64 k ∧ t = .int .u32 (turned a k : Int)) (fun _ i => 32 - (intOf i).toNat)
  case atStart => exact ⟨0, Nat.zero_le _, rfl, rfl⟩
  case round =>
    obtain ⟨k, hk, rfl, rfl⟩ := hrel
    have hA := and_one a k ha
    by_cases hlt : k < 32
    · go_wp2
      go_round
      case rel => exact ⟨k + 1, by omega, by go_num, by rw [← or_turned a k hlt]⟩
      case measure => simp [intOf]; omega
    · obtain rfl : k = 32 := by omega
      go_wp2
      go_ret
      exact ⟨rfl, rfl⟩
end Go.Proofs.YtejcckkekjkmlaaDoor
