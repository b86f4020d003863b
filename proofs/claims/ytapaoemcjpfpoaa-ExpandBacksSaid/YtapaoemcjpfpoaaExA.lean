/-
  Stems: what the small functions of the document's answer hand back (May, Check, Has, Span); one contract a function, for every world.
-/
import Derived.Test.YtapaoemcjpfpoaaProg
import Derived.Test.YtapaoemcjpfpoaaExPlB
import Derived.Test.YtapaoemcjpfpoaaPxKin
import Derived.Laws.BitsAllLaws
namespace Go.Proofs.Ytapaoemcjpfpoaa
open Go.RowKit
set_option linter.unusedVariables false
set_option linter.unusedSimpArgs false

/-- The bit i of a number of 16 bits, counted from its first. -/
def bt (b i : Nat) : Nat := b / 2 ^ (15 - i) % 2
theorem bt_lt (b i : Nat) : bt b i < 2 := Nat.mod_lt _ (by decide)
theorem and_bt (b k : Nat) (hb : b < 65536) : bits .and .u16 ((b : Int) / 2 ^ k) 1 = ((b / 2 ^ k % 2 : Nat) : Int) := by
  have e : (b : Int) / 2 ^ k = ((b / 2 ^ k : Nat) : Int) := by simp
  rw [e]
  have h := u16_and_nat (b / 2 ^ k) 1 (Nat.lt_of_le_of_lt (Nat.div_le_self _ _) hb) (by decide)
  rw [nat_mask1] at h
  exact h
/-- May the stem be? -/
def mayT (b : Nat) (n : Int) : Bool := decide (0 ≤ n ∧ n ≤ 16 ∧ b % 2 ^ (16 - n.toNat) = 0)
def hasT (b : Nat) (n : Int) (q : Nat) : Bool := mayT b n && decide (b / 2 ^ (16 - n.toNat) = q / 2 ^ (16 - n.toNat))
theorem mod_bt (b i : Nat) (h : i < 16) : b % 2 ^ (16 - i) = bt b i * 2 ^ (15 - i) + b % 2 ^ (16 - (i + 1)) := by
  unfold bt
  rw [show 16 - i = (15 - i) + 1 by omega, show 16 - (i + 1) = 15 - i by omega, Nat.pow_succ, Nat.mod_mul]
  rw [Nat.mul_comm, Nat.add_comm]
theorem div_bt (b i : Nat) (h : i < 16) : b / 2 ^ (16 - (i + 1)) = b / 2 ^ (16 - i) * 2 + bt b i := by
  unfold bt
  rw [show 16 - i = (15 - i) + 1 by omega, show 16 - (i + 1) = 15 - i by omega, Nat.pow_succ, ← Nat.div_div_eq_div_mul]
  omega
theorem stemT (b : Nat) (n : Int) (w : World) :
    Calls Try.prog 34 #[.int .u16 b, .int .i64 n] w fun e w' => e = .returned (.agg #[.int .u16 b, .int .i64 n]) ∧ Below w.heap.size w w' := by
  go_enter Try.func34, Try.ntmps34
  go_wp2
  exact bodyPost_ret (v := .agg #[.int .u16 b, .int .i64 n]) (by simp [results, Try.results34, go_sem]) rfl ⟨rfl, by (repeat (first | assumption | exact Below.refl _ _ | refine Below.drew ?_ | refine bel_drewN ?_ _ | refine Below.setCell ?_ (by first | omega | (simp; done) | (simp; omega)) _ | refine Below.alloc ?_ (by first | omega | (simp; done) | (simp; omega)) _ | refine bel_of ?_ (by assumption)))⟩
set_option maxHeartbeats 1000000 in
theorem rmayT (b : Nat) (n : Int) (w : World) (hb : b < 65536) :
    Calls Try.prog 33 #[.agg #[.int .u16 b, .int .i64 n]] w fun e w' => e = .returned (.bool (mayT b n)) ∧ Below w.heap.size w w' := by
  by_cases h0 : n < 0
  · have e : mayT b n = false := decide_eq_false (by omega)
    have d0 : decide (n < 0) = true := decide_eq_true h0
    rw [e]
    go_enter Try.func33, Try.ntmps33
    go_wp2
    go_ret
    exact ⟨rfl, by (repeat (first | assumption | exact Below.refl _ _ | refine Below.drew ?_ | refine bel_drewN ?_ _ | refine Below.setCell ?_ (by first | omega | (simp; done) | (simp; omega)) _ | refine Below.alloc ?_ (by first | omega | (simp; done) | (simp; omega)) _ | refine bel_of ?_ (by assumption)))⟩
  · have d0 : decide (n < 0) = false := decide_eq_false h0
    by_cases h1 : 16 < n
    · have e : mayT b n = false := decide_eq_false (by omega)
      have d1 : decide (16 < n) = true := decide_eq_true h1
      rw [e]
      go_enter Try.func33, Try.ntmps33
      go_wp2
      go_ret
      exact ⟨rfl, by (repeat (first | assumption | exact Below.refl _ _ | refine Below.drew ?_ | refine bel_drewN ?_ _ | refine Below.setCell ?_ (by first | omega | (simp; done) | (simp; omega)) _ | refine Below.alloc ?_ (by first | omega | (simp; done) | (simp; omega)) _ | refine bel_of ?_ (by assumption)))⟩
    · have d1 : decide (16 < n) = false := decide_eq_false h1
      obtain ⟨m, rfl⟩ : ∃ m : Nat, n = (m : Int) := ⟨n.toNat, by omega⟩
      have hm : m ≤ 16 := by omega
      have HM : Hid (mayT b (m : Int) = decide (b % 2 ^ (16 - m) = 0)) := by
        show _ = _
        unfold mayT
        rw [Int.toNat_natCast, decide_eq_decide]
        omega
      go_enter Try.func33, Try.ntmps33
      go_wp2_with (fail)
      go_loop [3] (fun i => ∃ k : Nat, m ≤ k ∧ k ≤ 16 ∧ i = .int .i64 k ∧ Hid (b % 2 ^ (16 - m) = b % 2 ^ (16 - k))) (fun i => 16 - (intOf i).toNat)
      case atStart => exact ⟨m, Nat.le_refl _, hm, rfl, rfl⟩
      case round =>
        obtain ⟨k, hk1, hk2, rfl, hs⟩ := hrel
        by_cases hlt : k < 16
        · have hlt' : (k : Int) < 16 := by omega
          have hA := and_bt b (15 - k) hb
          have lt := bt_lt b k
          have hst := mod_bt b k hlt
          have hab : bits .and .u16 ((b : Int) / 2 ^ (15 - k)) 1 = ((bt b k : Nat) : Int) := hA
          clear hA
          obtain e | e : bt b k = 0 ∨ bt b k = 1 := by omega
          · have e' : ((bt b k : Nat) : Int) = 0 := by omega
            have HS : Hid (b % 2 ^ (16 - m) = b % 2 ^ (16 - (k + 1))) := by show _ = _; rw [hs.out, hst, e]; omega
            clear hst e
            go_wp2_with (fail)
            go_round
            case rel => exact ⟨k + 1, by omega, by omega, by go_num, HS.out⟩
            case measure => simp [intOf]; omega
          · have e' : ((bt b k : Nat) : Int) = 1 := by omega
            have HS : Hid (¬ b % 2 ^ (16 - m) = 0) := by
              show ¬ _
              rw [hs.out, hst, e]
              have : 0 < 2 ^ (15 - k) := Nat.pow_pos (by decide)
              omega
            clear hst e
            go_wp2_with (fail)
            go_ret
            exact ⟨ret_same (by rw [HM.out, decide_eq_false HS.out]), by (repeat (first | assumption | exact Below.refl _ _ | refine Below.drew ?_ | refine bel_drewN ?_ _ | refine Below.setCell ?_ (by first | omega | (simp; done) | (simp; omega)) _ | refine Below.alloc ?_ (by first | omega | (simp; done) | (simp; omega)) _ | refine bel_of ?_ (by assumption)))⟩
        · obtain rfl : k = 16 := by omega
          go_wp2
          go_ret
          exact ⟨ret_same (by rw [HM.out, decide_eq_true (by rw [hs.out, Nat.sub_self, Nat.pow_zero, Nat.mod_one])]), by (repeat (first | assumption | exact Below.refl _ _ | refine Below.drew ?_ | refine bel_drewN ?_ _ | refine Below.setCell ?_ (by first | omega | (simp; done) | (simp; omega)) _ | refine Below.alloc ?_ (by first | omega | (simp; done) | (simp; omega)) _ | refine bel_of ?_ (by assumption)))⟩
theorem rcheckT (b : Nat) (n : Int) (w : World) (hb : b < 65536) :
    Calls Try.prog 13 #[.agg #[.int .u16 b, .int .i64 n]] w fun e w' => e = .returned (.int .i64 (if mayT b n then 0 else 50)) ∧ Below w.heap.size w w' := by
  have hm := fun W => rmayT b n W hb
  cases h : mayT b n
  all_goals
    rw [h] at hm
    go_enter Try.func13, Try.ntmps13
    go_wp2_with (fail)
    refine (hm _).mono ?_
    rintro e w1 ⟨rfl, hb1⟩
    have hz := hb1.size
    simp at hz
    go_wp2
    go_ret
    exact ⟨rfl, by (repeat (first | assumption | exact Below.refl _ _ | refine Below.drew ?_ | refine bel_drewN ?_ _ | refine Below.setCell ?_ (by first | omega | (simp; done) | (simp; omega)) _ | refine Below.alloc ?_ (by first | omega | (simp; done) | (simp; omega)) _ | refine bel_of ?_ (by assumption)))⟩
set_option maxHeartbeats 1000000 in
theorem rhasT (b : Nat) (n : Int) (q : Nat) (w : World) (hb : b < 65536) (hq : q < 65536) :
    Calls Try.prog 15 #[.agg #[.int .u16 b, .int .i64 n], .int .u16 q] w fun e w' => e = .returned (.bool (hasT b n q)) ∧ Below w.heap.size w w' := by
  have hm := fun W => rmayT b n W hb
  cases h : mayT b n
  · have e : hasT b n q = false := by unfold hasT; rw [h]; rfl
    rw [h] at hm
    rw [e]
    go_enter Try.func15, Try.ntmps15
    go_wp2_with (fail)
    refine (hm _).mono ?_
    rintro e w1 ⟨rfl, hb1⟩
    have hz := hb1.size
    simp at hz
    go_wp2
    go_ret
    exact ⟨rfl, by (repeat (first | assumption | exact Below.refl _ _ | refine Below.drew ?_ | refine bel_drewN ?_ _ | refine Below.setCell ?_ (by first | omega | (simp; done) | (simp; omega)) _ | refine Below.alloc ?_ (by first | omega | (simp; done) | (simp; omega)) _ | refine bel_of ?_ (by assumption)))⟩
  · rw [h] at hm
    have hmm : 0 ≤ n ∧ n ≤ 16 ∧ b % 2 ^ (16 - n.toNat) = 0 := of_decide_eq_true h
    obtain ⟨m, rfl⟩ : ∃ m : Nat, n = (m : Int) := ⟨n.toNat, by omega⟩
    have hm16 : m ≤ 16 := by omega
    have HE : Hid (hasT b (m : Int) q = decide (b / 2 ^ (16 - m) = q / 2 ^ (16 - m))) := by
      show _ = _
      unfold hasT
      rw [h, Bool.true_and, Int.toNat_natCast]
    clear h hmm
    go_enter Try.func15, Try.ntmps15
    go_wp2_with (fail)
    refine (hm _).mono ?_
    rintro e w1 ⟨rfl, hb1⟩
    have c0 : w1.cell? ⟨w.heap.size, 0, none⟩ = some (.int .u16 b) := cell_on1 hb1 (by simp [go_sem])
    have c1 : w1.cell? ⟨w.heap.size, 1, none⟩ = some (.int .i64 m) := cell_on1 hb1 (by simp [go_sem])
    have hbw : Hid (Below w.heap.size w w1) := by show Below _ _ _; (repeat (first | assumption | exact Below.refl _ _ | refine Below.drew ?_ | refine bel_drewN ?_ _ | refine Below.setCell ?_ (by first | omega | (simp; done) | (simp; omega)) _ | refine Below.alloc ?_ (by first | omega | (simp; done) | (simp; omega)) _ | refine bel_of ?_ (by assumption)))
    clear hb1 hm
    go_wp2_with (fail)
    go_loopw [5] (fun i wr => ∃ k d : Nat, k ≤ m ∧ i = .int .i64 k ∧ Hid (b / 2 ^ (16 - k) = q / 2 ^ (16 - k)) ∧ wr = w1.drewN d) (fun i _ => m - (intOf i).toNat)
    case atStart => exact ⟨0, 0, Nat.zero_le _, rfl, by show _ = _; rw [Nat.div_eq_of_lt (by simpa using hb), Nat.div_eq_of_lt (by simpa using hq)], rfl⟩
    case round =>
      obtain ⟨k, d, hk, rfl, hs, rfl⟩ := hrel
      by_cases hlt : k < m
      · have hlt' : (k : Int) < (m : Int) := by omega
        have hk16 : (k : Int) < 16 := by omega
        have hk0 : (0 : Int) ≤ (k : Int) := by omega
        have hA : bits .and .u16 ((b : Int) / 2 ^ (15 - k)) 1 = ((bt b k : Nat) : Int) := and_bt b (15 - k) hb
        have hB : bits .and .u16 ((q : Int) / 2 ^ (15 - k)) 1 = ((bt q k : Nat) : Int) := and_bt q (15 - k) hq
        have d1 := div_bt b k (by omega)
        have d2 := div_bt q k (by omega)
        by_cases e : bt b k = bt q k
        · have h1 : (((bt b k : Nat) : Int) != ((bt q k : Nat) : Int)) = false := by rw [e]; simp
          have HS : Hid (b / 2 ^ (16 - (k + 1)) = q / 2 ^ (16 - (k + 1))) := by show _ = _; rw [d1, d2, hs.out, e]
          clear d1 d2 e
          go_wp2_with (fail)
          go_quiet (fail)
          go_wp2_with (fail)
          go_roundw
          case rel => exact ⟨k + 1, _, by omega, by go_num, HS.out, rfl⟩
          case measure => simp [intOf]; omega
        · have h1 : (((bt b k : Nat) : Int) != ((bt q k : Nat) : Int)) = true := by simp; omega
          have HS : Hid (¬ b / 2 ^ (16 - m) = q / 2 ^ (16 - m)) := by
            intro hc
            apply e
            have e2 : ∀ y : Nat, y / 2 ^ (16 - (k + 1)) = y / 2 ^ (16 - m) / 2 ^ (m - (k + 1)) := fun y => by
              rw [Nat.div_div_eq_div_mul, ← Nat.pow_add]
              congr 2; omega
            have e3 : b / 2 ^ (16 - (k + 1)) = q / 2 ^ (16 - (k + 1)) := by rw [e2 b, e2 q, hc]
            rw [d1, d2, hs.out] at e3
            omega
          clear d1 d2 e
          go_wp2_with (fail)
          go_quiet (fail)
          go_wp2_with (fail)
          go_ret
          exact ⟨ret_same (by rw [HE.out, decide_eq_false HS.out]), by have := hbw.out; (repeat (first | assumption | exact Below.refl _ _ | refine Below.drew ?_ | refine bel_drewN ?_ _ | refine Below.setCell ?_ (by first | omega | (simp; done) | (simp; omega)) _ | refine Below.alloc ?_ (by first | omega | (simp; done) | (simp; omega)) _ | refine bel_of ?_ (by assumption)))⟩
      · obtain rfl : k = m := by omega
        go_wp2_with (fail)
        go_ret
        exact ⟨ret_same (by rw [HE.out, decide_eq_true hs.out]), by have := hbw.out; (repeat (first | assumption | exact Below.refl _ _ | refine Below.drew ?_ | refine bel_drewN ?_ _ | refine Below.setCell ?_ (by first | omega | (simp; done) | (simp; omega)) _ | refine Below.alloc ?_ (by first | omega | (simp; done) | (simp; omega)) _ | refine bel_of ?_ (by assumption)))⟩
/-- The last port of a stem. -/
def topT (b : Nat) (n : Int) : Nat := b + 2 ^ (16 - n.toNat) - 1
theorem topT_lt {b : Nat} {n : Int} (hb : b < 65536) (h : mayT b n = true) : topT b n < 65536 ∧ b ≤ topT b n := by
  have hmm : 0 ≤ n ∧ n ≤ 16 ∧ b % 2 ^ (16 - n.toNat) = 0 := of_decide_eq_true h
  unfold topT
  have hp : 0 < 2 ^ (16 - n.toNat) := Nat.pow_pos (by decide)
  have hd : 2 ^ (16 - n.toNat) ∣ 65536 := pow_dvd_le (f := 16 - n.toNat) (g := 16) (by omega)
  obtain ⟨c, hc⟩ := hd
  have hb2 := Nat.div_add_mod b (2 ^ (16 - n.toNat))
  rw [hmm.2.2, Nat.add_zero] at hb2
  generalize 2 ^ (16 - n.toNat) = z at *
  generalize b / z = y at *
  subst hb2
  have hyc : y < c := by
    rw [hc] at hb
    exact Nat.lt_of_mul_lt_mul_left hb
  have h2 : z * (y + 1) ≤ z * c := Nat.mul_le_mul_left z hyc
  rw [Nat.mul_add, Nat.mul_one] at h2
  omega
theorem rspan_no (b : Nat) (n : Int) (w : World) (hb : b < 65536) (h : mayT b n = false) :
    Calls Try.prog 10 #[.agg #[.int .u16 b, .int .i64 n]] w fun e w' => e = .returned (.tuple #[.agg #[.int .u16 0, .int .u16 0], .int .i64 50]) ∧ Below w.heap.size w w' := by
  have hm := fun W => rmayT b n W hb
  rw [h] at hm
  go_enter Try.func10, Try.ntmps10
  go_wp2_with (fail)
  refine (hm _).mono ?_
  rintro e w1 ⟨rfl, hb1⟩
  have c0 : w1.cell? ⟨w.heap.size + 1, 0, none⟩ = some (.int .u16 0) := cell_on1 hb1 (by simp [go_sem])
  have c1 : w1.cell? ⟨w.heap.size + 1, 1, none⟩ = some (.int .u16 0) := cell_on1 hb1 (by simp [go_sem])
  have f0 : w1.frozen? ⟨w.heap.size + 1, 0, none⟩ = false := by rw [hb1.frozen (by simp)]; simp [go_sem]
  have f1 : w1.frozen? ⟨w.heap.size + 1, 1, none⟩ = false := by rw [hb1.frozen (by simp)]; simp [go_sem]
  have hbw : Hid (Below w.heap.size w w1) := by show Below _ _ _; (repeat (first | assumption | exact Below.refl _ _ | refine Below.drew ?_ | refine bel_drewN ?_ _ | refine Below.setCell ?_ (by first | omega | (simp; done) | (simp; omega)) _ | refine Below.alloc ?_ (by first | omega | (simp; done) | (simp; omega)) _ | refine bel_of ?_ (by assumption)))
  clear hb1
  go_wp2
  exact bodyPost_ret (v := .tuple #[.agg #[.int .u16 0, .int .u16 0], .int .i64 50]) (by simp [results, Try.results10, go_sem, *]) rfl ⟨rfl, by have := hbw.out; (repeat (first | assumption | exact Below.refl _ _ | refine Below.drew ?_ | refine bel_drewN ?_ _ | refine Below.setCell ?_ (by first | omega | (simp; done) | (simp; omega)) _ | refine Below.alloc ?_ (by first | omega | (simp; done) | (simp; omega)) _ | refine bel_of ?_ (by assumption)))⟩
theorem rspan_ok (b : Nat) (n : Int) (w : World) (hb : b < 65536) (h : mayT b n = true) :
    Calls Try.prog 10 #[.agg #[.int .u16 b, .int .i64 n]] w fun e w' => e = .returned (.tuple #[.agg #[.int .u16 (b : Nat), .int .u16 (topT b n : Nat)], .int .i64 0]) ∧ Below w.heap.size w w' := by
  have hm := fun W => rmayT b n W hb
  have htop := topT_lt hb h
  have hmm : 0 ≤ n ∧ n ≤ 16 ∧ b % 2 ^ (16 - n.toNat) = 0 := of_decide_eq_true h
  rw [h] at hm
  obtain ⟨m, rfl⟩ : ∃ m : Nat, n = (m : Int) := ⟨n.toNat, by omega⟩
  have hm16 : m ≤ 16 := by omega
  have hm16' : (m : Int) ≤ 16 := by omega
  have HT : Hid ((b : Int) + 2 ^ (16 - m) - 1 = ((topT b (m : Int) : Nat) : Int)) := by
    show _ = _
    unfold topT
    rw [Int.toNat_natCast]
    have hp : 0 < 2 ^ (16 - m) := Nat.pow_pos (by decide)
    have e : (2 : Int) ^ (16 - m) = ((2 ^ (16 - m) : Nat) : Int) := by simp
    rw [e]
    generalize 2 ^ (16 - m) = z at hp
    omega
  have hL : (2 : Int) ^ (16 - m) ≤ 65536 := by
    have : 2 ^ (16 - m) ≤ 2 ^ 16 := pow_le (by omega)
    have e : (2 : Int) ^ (16 - m) = ((2 ^ (16 - m) : Nat) : Int) := by simp
    rw [e]; omega
  have hP : (0 : Int) < (2 : Int) ^ (16 - m) := Int.pow_pos (by decide)
  clear h hmm
  generalize topT b (m : Int) = tp at *
  go_enter Try.func10, Try.ntmps10
  go_wp2_with (fail)
  refine (hm _).mono ?_
  rintro e w1 ⟨rfl, hb1⟩
  have a0 : w1.cell? ⟨w.heap.size, 0, none⟩ = some (.int .u16 b) := cell_on1 hb1 (by simp [go_sem])
  have a1 : w1.cell? ⟨w.heap.size, 1, none⟩ = some (.int .i64 m) := cell_on1 hb1 (by simp [go_sem])
  have c0 : w1.cell? ⟨w.heap.size + 1, 0, none⟩ = some (.int .u16 0) := cell_on1 hb1 (by simp [go_sem])
  have c1 : w1.cell? ⟨w.heap.size + 1, 1, none⟩ = some (.int .u16 0) := cell_on1 hb1 (by simp [go_sem])
  have f0 : w1.frozen? ⟨w.heap.size + 1, 0, none⟩ = false := by rw [hb1.frozen (by simp)]; simp [go_sem]
  have f1 : w1.frozen? ⟨w.heap.size + 1, 1, none⟩ = false := by rw [hb1.frozen (by simp)]; simp [go_sem]
  have hbw : Hid (Below w.heap.size w w1) := by show Below _ _ _; (repeat (first | assumption | exact Below.refl _ _ | refine Below.drew ?_ | refine bel_drewN ?_ _ | refine Below.setCell ?_ (by first | omega | (simp; done) | (simp; omega)) _ | refine Below.alloc ?_ (by first | omega | (simp; done) | (simp; omega)) _ | refine bel_of ?_ (by assumption)))
  clear hb1 hm
  have HW : IntKind.u16.wrap ((b : Int) + 2 ^ (16 - m) - 1) = ((tp : Nat) : Int) := by
    rw [HT.out]
    simp [IntKind.wrap, IntKind.signed, IntKind.bits]
    omega
  go_wp2
  exact bodyPost_ret (v := .tuple #[.agg #[.int .u16 (b : Nat), .int .u16 (tp : Nat)], .int .i64 0]) (by simp [results, Try.results10, go_sem, *]) rfl ⟨rfl, by have := hbw.out; (repeat (first | assumption | exact Below.refl _ _ | refine Below.drew ?_ | refine bel_drewN ?_ _ | refine Below.setCell ?_ (by first | omega | (simp; done) | (simp; omega)) _ | refine Below.alloc ?_ (by first | omega | (simp; done) | (simp; omega)) _ | refine bel_of ?_ (by assumption)))⟩
end Go.Proofs.Ytapaoemcjpfpoaa
