/-
  tail, Check, Has, Span of package expand: what they hand back.
-/
import Derived.Test.YtapaoemcjpfpoaaExK
import Derived.Test.YtapaoemcjpfpoaaExPn
import Derived.Deep.RegionHeld3
import Derived.Deep.DrawnRows
namespace Go.Proofs.Ytapaoemcjpfpoaa
open Go.RowKit
set_option linter.unusedVariables false
set_option linter.unusedSimpArgs false
attribute [local go_sem ↓] Go.wp_at_zero Go.wp_at_succ

/-- The last k bits, all set. -/
def mk (k : Nat) : Nat := 2 ^ k - 1
theorem mk_lt {k : Nat} (h : k ≤ 16) : mk k < 65536 := by
  have := two_le16 h
  have := two_pos k
  unfold mk; omega
theorem and_mk (b k : Nat) (hb : b < 65536) (hk : k ≤ 16) : bits .and .u16 (b : Int) (mk k : Int) = ((b % 2 ^ k : Nat) : Int) := by
  rw [u16_and_nat b (mk k) hb (mk_lt hk)]
  unfold mk
  rw [and_low]
theorem andNot_mk (q k : Nat) (hq : q < 65536) (hk : k ≤ 16) : bits .andNot .u16 (q : Int) (mk k : Int) = ((q / 2 ^ k * 2 ^ k : Nat) : Int) := by
  rw [u16_andNot_nat q (mk k) hq (mk_lt hk)]
  unfold mk
  rw [andNot_high q k hq hk]
theorem or_mk (b k : Nat) (hb : b < 65536) (hk : k ≤ 16) (h : b % 2 ^ k = 0) : bits .or .u16 (b : Int) (mk k : Int) = ((b + 2 ^ k - 1 : Nat) : Int) := by
  rw [u16_or_nat b (mk k) hb (mk_lt hk)]
  unfold mk
  rw [or_top b k h]
theorem tailT (n : Nat) (hn : n ≤ 16) (w : World) :
    Calls Try.prog 32 #[.int .i64 n] w fun e w' => e = .returned (.int .u16 (mk (16 - n) : Int)) ∧ w' = w := by
  have h0 : (0 : Int) ≤ (n : Int) := by omega
  have h1 : (n : Int) ≤ 16 := by omega
  have ht : (65535 : Int) / 2 ^ n = (mk (16 - n) : Int) := tail_int n hn
  go_enter Try.func32, Try.ntmps32
  go_wp2
  go_ret
  exact ⟨rfl, rfl⟩
set_option maxHeartbeats 1000000 in
theorem chkC : ChkC := by
  intro b n w hb
  by_cases h0 : n < 0
  · have e : mayT b n = false := decide_eq_false (by omega)
    rw [e]
    have d0 : decide (n < 0) = true := decide_eq_true h0
    go_enter Try.func12, Try.ntmps12
    go_wp2
    have kne : Nonempty (Kin (w.alloc (.cells #[.int .u16 b, .int .i64 n] 24))) := ⟨⟨_, Below.refl _ _⟩⟩
    have kc0 : ∀ y : Kin (w.alloc (.cells #[.int .u16 b, .int .i64 n] 24)), y.val.cell? ⟨w.heap.size, 0, none⟩ = some (.int .u16 b) := fun y => by rw [kin_cell (by first | omega | (simp <;> omega))]; first | assumption | (simp [go_sem]; done) | simp [go_sem, *]
    have kc1 : ∀ y : Kin (w.alloc (.cells #[.int .u16 b, .int .i64 n] 24)), y.val.cell? ⟨w.heap.size, 1, none⟩ = some (.int .i64 n) := fun y => by rw [kin_cell (by first | omega | (simp <;> omega))]; first | assumption | (simp [go_sem]; done) | simp [go_sem, *]
    refine wp_region_kin (w.alloc (.cells #[.int .u16 b, .int .i64 n] 24)) (Below.refl _ _) (by kernel_rfl) (by kernel_rfl) ?_
    repeat (go_big_quiet_step (fail))
    refine wpQuiet_nil ?_
    rintro wq ⟨⟨xq, hxq⟩, hyq⟩
    have hq : Below (w.alloc (.cells #[.int .u16 b, .int .i64 n] 24)).heap.size (w.alloc (.cells #[.int .u16 b, .int .i64 n] 24)) wq := by rw [hyq]; exact hxq
    clear hyq hxq xq
    clear kne kc0 kc1
    obtain ⟨hcq, hfq⟩ := bcell hq
    have hzq := hq.size
    try simp at hzq
    go_wp2
    go_ret
    exact ⟨rfl, by (repeat (first | assumption | exact Below.refl _ _ | refine Below.drew ?_ | refine bel_drewN ?_ _ | refine Below.setCell ?_ (by first | omega | (simp; done) | (simp; omega)) _ | refine Below.alloc ?_ (by first | omega | (simp; done) | (simp; omega)) _ | refine bel_of ?_ (by assumption)))⟩
  · have d0 : decide (n < 0) = false := decide_eq_false h0
    by_cases h1 : 16 < n
    · have e : mayT b n = false := decide_eq_false (by omega)
      have d1 : decide (16 < n) = true := decide_eq_true h1
      rw [e]
      go_enter Try.func12, Try.ntmps12
      go_wp2
      have kne : Nonempty (Kin (w.alloc (.cells #[.int .u16 b, .int .i64 n] 24))) := ⟨⟨_, Below.refl _ _⟩⟩
      have kc0 : ∀ y : Kin (w.alloc (.cells #[.int .u16 b, .int .i64 n] 24)), y.val.cell? ⟨w.heap.size, 0, none⟩ = some (.int .u16 b) := fun y => by rw [kin_cell (by first | omega | (simp <;> omega))]; first | assumption | (simp [go_sem]; done) | simp [go_sem, *]
      have kc1 : ∀ y : Kin (w.alloc (.cells #[.int .u16 b, .int .i64 n] 24)), y.val.cell? ⟨w.heap.size, 1, none⟩ = some (.int .i64 n) := fun y => by rw [kin_cell (by first | omega | (simp <;> omega))]; first | assumption | (simp [go_sem]; done) | simp [go_sem, *]
      refine wp_region_kin (w.alloc (.cells #[.int .u16 b, .int .i64 n] 24)) (Below.refl _ _) (by kernel_rfl) (by kernel_rfl) ?_
      repeat (go_big_quiet_step (fail))
      refine wpQuiet_nil ?_
      rintro wq ⟨⟨xq, hxq⟩, hyq⟩
      have hq : Below (w.alloc (.cells #[.int .u16 b, .int .i64 n] 24)).heap.size (w.alloc (.cells #[.int .u16 b, .int .i64 n] 24)) wq := by rw [hyq]; exact hxq
      clear hyq hxq xq
      clear kne kc0 kc1
      obtain ⟨hcq, hfq⟩ := bcell hq
      have hzq := hq.size
      try simp at hzq
      go_wp2
      go_ret
      exact ⟨rfl, by (repeat (first | assumption | exact Below.refl _ _ | refine Below.drew ?_ | refine bel_drewN ?_ _ | refine Below.setCell ?_ (by first | omega | (simp; done) | (simp; omega)) _ | refine Below.alloc ?_ (by first | omega | (simp; done) | (simp; omega)) _ | refine bel_of ?_ (by assumption)))⟩
    · have d1 : decide (16 < n) = false := decide_eq_false h1
      obtain ⟨m, rfl⟩ : ∃ m : Nat, n = (m : Int) := ⟨n.toNat, by omega⟩
      have hm : m ≤ 16 := by omega
      have HM : mayT b (m : Int) = decide (b % 2 ^ (16 - m) = 0) := by
        unfold mayT
        rw [Int.toNat_natCast, decide_eq_decide]
        omega
      have hA := and_mk b (16 - m) hb (by omega)
      rw [HM]
      clear HM
      by_cases hz : b % 2 ^ (16 - m) = 0
      · rw [decide_eq_true hz]
        rw [hz] at hA
        have hA' : bits .and .u16 (b : Int) (mk (16 - m) : Int) = 0 := hA
        clear hA hz
        go_enter Try.func12, Try.ntmps12
        go_wp2
        have kne : Nonempty (Kin (w.alloc (.cells #[.int .u16 b, .int .i64 (m : Int)] 24))) := ⟨⟨_, Below.refl _ _⟩⟩
        have kc0 : ∀ y : Kin (w.alloc (.cells #[.int .u16 b, .int .i64 (m : Int)] 24)), y.val.cell? ⟨w.heap.size, 0, none⟩ = some (.int .u16 b) := fun y => by rw [kin_cell (by first | omega | (simp <;> omega))]; first | assumption | (simp [go_sem]; done) | simp [go_sem, *]
        have kc1 : ∀ y : Kin (w.alloc (.cells #[.int .u16 b, .int .i64 (m : Int)] 24)), y.val.cell? ⟨w.heap.size, 1, none⟩ = some (.int .i64 m) := fun y => by rw [kin_cell (by first | omega | (simp <;> omega))]; first | assumption | (simp [go_sem]; done) | simp [go_sem, *]
        refine wp_region_kin (w.alloc (.cells #[.int .u16 b, .int .i64 (m : Int)] 24)) (Below.refl _ _) (by kernel_rfl) (by kernel_rfl) ?_
        repeat (go_big_quiet_step ((go_at_call 32; exact kin_same (tailT m hm _))))
        refine wpQuiet_nil ?_
        rintro wq ⟨⟨xq, hxq⟩, hyq⟩
        have hq : Below (w.alloc (.cells #[.int .u16 b, .int .i64 (m : Int)] 24)).heap.size (w.alloc (.cells #[.int .u16 b, .int .i64 (m : Int)] 24)) wq := by rw [hyq]; exact hxq
        clear hyq hxq xq
        clear kne kc0 kc1
        obtain ⟨hcq, hfq⟩ := bcell hq
        have hzq := hq.size
        try simp at hzq
        go_wp2
        go_ret
        exact ⟨rfl, by (repeat (first | assumption | exact Below.refl _ _ | refine Below.drew ?_ | refine bel_drewN ?_ _ | refine Below.setCell ?_ (by first | omega | (simp; done) | (simp; omega)) _ | refine Below.alloc ?_ (by first | omega | (simp; done) | (simp; omega)) _ | refine bel_of ?_ (by assumption)))⟩
      · rw [decide_eq_false hz]
        obtain ⟨y, hy⟩ : ∃ y : Nat, y = b % 2 ^ (16 - m) := ⟨_, rfl⟩
        rw [← hy] at hA hz
        have hne : ((y : Int) != 0) = true := by simpa using hz
        have hne2 : ¬ (y : Int) = 0 := by omega
        clear hy hz
        go_enter Try.func12, Try.ntmps12
        go_wp2
        have kne : Nonempty (Kin (w.alloc (.cells #[.int .u16 b, .int .i64 (m : Int)] 24))) := ⟨⟨_, Below.refl _ _⟩⟩
        have kc0 : ∀ y : Kin (w.alloc (.cells #[.int .u16 b, .int .i64 (m : Int)] 24)), y.val.cell? ⟨w.heap.size, 0, none⟩ = some (.int .u16 b) := fun y => by rw [kin_cell (by first | omega | (simp <;> omega))]; first | assumption | (simp [go_sem]; done) | simp [go_sem, *]
        have kc1 : ∀ y : Kin (w.alloc (.cells #[.int .u16 b, .int .i64 (m : Int)] 24)), y.val.cell? ⟨w.heap.size, 1, none⟩ = some (.int .i64 m) := fun y => by rw [kin_cell (by first | omega | (simp <;> omega))]; first | assumption | (simp [go_sem]; done) | simp [go_sem, *]
        refine wp_region_kin (w.alloc (.cells #[.int .u16 b, .int .i64 (m : Int)] 24)) (Below.refl _ _) (by kernel_rfl) (by kernel_rfl) ?_
        repeat (go_big_quiet_step ((go_at_call 32; exact kin_same (tailT m hm _))))
        refine wpQuiet_nil ?_
        rintro wq ⟨⟨xq, hxq⟩, hyq⟩
        have hq : Below (w.alloc (.cells #[.int .u16 b, .int .i64 (m : Int)] 24)).heap.size (w.alloc (.cells #[.int .u16 b, .int .i64 (m : Int)] 24)) wq := by rw [hyq]; exact hxq
        clear hyq hxq xq
        clear kne kc0 kc1
        obtain ⟨hcq, hfq⟩ := bcell hq
        have hzq := hq.size
        try simp at hzq
        go_wp2
        go_ret
        exact ⟨rfl, by (repeat (first | assumption | exact Below.refl _ _ | refine Below.drew ?_ | refine bel_drewN ?_ _ | refine Below.setCell ?_ (by first | omega | (simp; done) | (simp; omega)) _ | refine Below.alloc ?_ (by first | omega | (simp; done) | (simp; omega)) _ | refine bel_of ?_ (by assumption)))⟩
theorem chkT (b : Nat) (n : Int) (w : World) (hb : b < 65536) :
    Calls Try.prog 12 #[.agg #[.int .u16 b, .int .i64 n]] w fun e w' => e = .returned (.int .i64 (if mayT b n then 0 else 50)) ∧ Below w.heap.size w w' := chkC b n w hb
set_option maxHeartbeats 1000000 in
theorem hasC : HasC := by
  intro b n q w hb hq
  cases h : mayT b n
  · have e : hasT b n q = false := by unfold hasT; rw [h]; rfl
    rw [e]
    have hc : ∀ W, Calls Try.prog 12 #[.agg #[.int .u16 b, .int .i64 n]] W fun e w' => e = .returned (.int .i64 50) ∧ Below W.heap.size W w' := fun W => by have := chkC b n W hb; rw [h] at this; exact this
    go_enter Try.func14, Try.ntmps14
    go_wp2
    have kne : Nonempty (Kin (w.alloc (.cells #[.int .u16 b, .int .i64 n] 24))) := ⟨⟨_, Below.refl _ _⟩⟩
    have kc0 : ∀ y : Kin (w.alloc (.cells #[.int .u16 b, .int .i64 n] 24)), y.val.cell? ⟨w.heap.size, 0, none⟩ = some (.int .u16 b) := fun y => by rw [kin_cell (by first | omega | (simp <;> omega))]; first | assumption | (simp [go_sem]; done) | simp [go_sem, *]
    have kc1 : ∀ y : Kin (w.alloc (.cells #[.int .u16 b, .int .i64 n] 24)), y.val.cell? ⟨w.heap.size, 1, none⟩ = some (.int .i64 n) := fun y => by rw [kin_cell (by first | omega | (simp <;> omega))]; first | assumption | (simp [go_sem]; done) | simp [go_sem, *]
    refine wp_region_kin (w.alloc (.cells #[.int .u16 b, .int .i64 n] 24)) (Below.refl _ _) (by kernel_rfl) (by kernel_rfl) ?_
    repeat (go_big_quiet_step ((go_at_call 12; exact kin_call (hc _))))
    refine wpQuiet_nil ?_
    rintro wq ⟨⟨xq, hxq⟩, hyq⟩
    have hq : Below (w.alloc (.cells #[.int .u16 b, .int .i64 n] 24)).heap.size (w.alloc (.cells #[.int .u16 b, .int .i64 n] 24)) wq := by rw [hyq]; exact hxq
    clear hyq hxq xq
    clear kne kc0 kc1
    obtain ⟨hcq, hfq⟩ := bcell hq
    have hzq := hq.size
    try simp at hzq
    go_wp2
    go_ret
    exact ⟨rfl, by (repeat (first | assumption | exact Below.refl _ _ | refine Below.drew ?_ | refine bel_drewN ?_ _ | refine Below.setCell ?_ (by first | omega | (simp; done) | (simp; omega)) _ | refine Below.alloc ?_ (by first | omega | (simp; done) | (simp; omega)) _ | refine bel_of ?_ (by assumption)))⟩
  · have hmm : 0 ≤ n ∧ n ≤ 16 ∧ b % 2 ^ (16 - n.toNat) = 0 := of_decide_eq_true h
    have hc : ∀ W, Calls Try.prog 12 #[.agg #[.int .u16 b, .int .i64 n]] W fun e w' => e = .returned (.int .i64 0) ∧ Below W.heap.size W w' := fun W => by have := chkC b n W hb; rw [h] at this; exact this
    obtain ⟨m, rfl⟩ : ∃ m : Nat, n = (m : Int) := ⟨n.toNat, by omega⟩
    have hm : m ≤ 16 := by omega
    rw [Int.toNat_natCast] at hmm
    have HE : hasT b (m : Int) q = decide (q / 2 ^ (16 - m) * 2 ^ (16 - m) = b) := by
      unfold hasT
      rw [h, Bool.true_and, Int.toNat_natCast, decide_eq_decide]
      exact (high_iff q b (16 - m) hmm.2.2).symm
    have hA := andNot_mk q (16 - m) hq (by omega)
    rw [HE]
    clear HE hmm h
    generalize q / 2 ^ (16 - m) * 2 ^ (16 - m) = z at *
    by_cases hy : z = b
    · subst hy
      rw [decide_eq_true rfl]
      go_enter Try.func14, Try.ntmps14
      go_wp2
      have kne : Nonempty (Kin (w.alloc (.cells #[.int .u16 z, .int .i64 (m : Int)] 24))) := ⟨⟨_, Below.refl _ _⟩⟩
      have kc0 : ∀ y : Kin (w.alloc (.cells #[.int .u16 z, .int .i64 (m : Int)] 24)), y.val.cell? ⟨w.heap.size, 0, none⟩ = some (.int .u16 z) := fun y => by rw [kin_cell (by first | omega | (simp <;> omega))]; first | assumption | (simp [go_sem]; done) | simp [go_sem, *]
      have kc1 : ∀ y : Kin (w.alloc (.cells #[.int .u16 z, .int .i64 (m : Int)] 24)), y.val.cell? ⟨w.heap.size, 1, none⟩ = some (.int .i64 m) := fun y => by rw [kin_cell (by first | omega | (simp <;> omega))]; first | assumption | (simp [go_sem]; done) | simp [go_sem, *]
      refine wp_region_kin (w.alloc (.cells #[.int .u16 z, .int .i64 (m : Int)] 24)) (Below.refl _ _) (by kernel_rfl) (by kernel_rfl) ?_
      repeat (go_big_quiet_step (first | (go_at_call 12; exact kin_call (hc _)) | (go_at_call 32; exact kin_same (tailT m hm _))))
      refine wpQuiet_nil ?_
      rintro wq ⟨⟨xq, hxq⟩, hyq⟩
      have hq : Below (w.alloc (.cells #[.int .u16 z, .int .i64 (m : Int)] 24)).heap.size (w.alloc (.cells #[.int .u16 z, .int .i64 (m : Int)] 24)) wq := by rw [hyq]; exact hxq
      clear hyq hxq xq
      clear kne kc0 kc1
      obtain ⟨hcq, hfq⟩ := bcell hq
      have hzq := hq.size
      try simp at hzq
      go_wp2
      go_ret
      exact ⟨rfl, by (repeat (first | assumption | exact Below.refl _ _ | refine Below.drew ?_ | refine bel_drewN ?_ _ | refine Below.setCell ?_ (by first | omega | (simp; done) | (simp; omega)) _ | refine Below.alloc ?_ (by first | omega | (simp; done) | (simp; omega)) _ | refine bel_of ?_ (by assumption)))⟩
    · rw [decide_eq_false hy]
      have e2 : ((z : Int) == (b : Int)) = false := by rw [beq_eq_false_iff_ne]; omega
      have e3 : ¬ (z : Int) = (b : Int) := by omega
      go_enter Try.func14, Try.ntmps14
      go_wp2
      have kne : Nonempty (Kin (w.alloc (.cells #[.int .u16 b, .int .i64 (m : Int)] 24))) := ⟨⟨_, Below.refl _ _⟩⟩
      have kc0 : ∀ y : Kin (w.alloc (.cells #[.int .u16 b, .int .i64 (m : Int)] 24)), y.val.cell? ⟨w.heap.size, 0, none⟩ = some (.int .u16 b) := fun y => by rw [kin_cell (by first | omega | (simp <;> omega))]; first | assumption | (simp [go_sem]; done) | simp [go_sem, *]
      have kc1 : ∀ y : Kin (w.alloc (.cells #[.int .u16 b, .int .i64 (m : Int)] 24)), y.val.cell? ⟨w.heap.size, 1, none⟩ = some (.int .i64 m) := fun y => by rw [kin_cell (by first | omega | (simp <;> omega))]; first | assumption | (simp [go_sem]; done) | simp [go_sem, *]
      refine wp_region_kin (w.alloc (.cells #[.int .u16 b, .int .i64 (m : Int)] 24)) (Below.refl _ _) (by kernel_rfl) (by kernel_rfl) ?_
      repeat (go_big_quiet_step (first | (go_at_call 12; exact kin_call (hc _)) | (go_at_call 32; exact kin_same (tailT m hm _))))
      refine wpQuiet_nil ?_
      rintro wq ⟨⟨xq, hxq⟩, hyq⟩
      have hq : Below (w.alloc (.cells #[.int .u16 b, .int .i64 (m : Int)] 24)).heap.size (w.alloc (.cells #[.int .u16 b, .int .i64 (m : Int)] 24)) wq := by rw [hyq]; exact hxq
      clear hyq hxq xq
      clear kne kc0 kc1
      obtain ⟨hcq, hfq⟩ := bcell hq
      have hzq := hq.size
      try simp at hzq
      go_wp2
      go_ret
      exact ⟨rfl, by (repeat (first | assumption | exact Below.refl _ _ | refine Below.drew ?_ | refine bel_drewN ?_ _ | refine Below.setCell ?_ (by first | omega | (simp; done) | (simp; omega)) _ | refine Below.alloc ?_ (by first | omega | (simp; done) | (simp; omega)) _ | refine bel_of ?_ (by assumption)))⟩
theorem spnN : SpnN := by
  intro b n w hb h
  have hc : ∀ W, Calls Try.prog 12 #[.agg #[.int .u16 b, .int .i64 n]] W fun e w' => e = .returned (.int .i64 50) ∧ Below W.heap.size W w' := fun W => by have := chkC b n W hb; rw [h] at this; exact this
  clear h
  go_enter Try.func9, Try.ntmps9
  go_wp2_with (go_at_call 12; refine (hc _).mono ?_; rintro e w1 ⟨rfl, hb1⟩; obtain ⟨hc1, hf1⟩ := bcell hb1; have hz1 := hb1.size; (try simp at hz1); (try (have hl10 : w.heap.size < w1.heap.size := (by omega))); (try (have hl11 : w.heap.size + 1 < w1.heap.size := (by omega))); (try (have hl12 : w.heap.size + 1 + 1 < w1.heap.size := (by omega))); (try (have hl13 : w.heap.size + 1 + 1 + 1 < w1.heap.size := (by omega))))
  exact bodyPost_ret (v := .tuple #[.agg #[.int .u16 0, .int .u16 0], .int .i64 50]) (by simp [results, Try.results9, go_sem, hc1, hf1]) rfl ⟨rfl, by (repeat (first | assumption | exact Below.refl _ _ | refine Below.drew ?_ | refine bel_drewN ?_ _ | refine Below.setCell ?_ (by first | omega | (simp; done) | (simp; omega)) _ | refine Below.alloc ?_ (by first | omega | (simp; done) | (simp; omega)) _ | refine bel_of ?_ (by assumption)))⟩
theorem spnC : SpnC := by
  intro b n w hb h
  have hc : ∀ W, Calls Try.prog 12 #[.agg #[.int .u16 b, .int .i64 n]] W fun e w' => e = .returned (.int .i64 0) ∧ Below W.heap.size W w' := fun W => by have := chkC b n W hb; rw [h] at this; exact this
  have hmm : 0 ≤ n ∧ n ≤ 16 ∧ b % 2 ^ (16 - n.toNat) = 0 := of_decide_eq_true h
  obtain ⟨m, rfl⟩ : ∃ m : Nat, n = (m : Int) := ⟨n.toNat, by omega⟩
  have hm : m ≤ 16 := by omega
  rw [Int.toNat_natCast] at hmm
  have hor : bits .or .u16 (b : Int) (mk (16 - m) : Int) = ((topT b (m : Int) : Nat) : Int) := by
    rw [or_mk b (16 - m) hb (by omega) hmm.2.2]
    unfold topT
    rw [Int.toNat_natCast]
  clear hmm h
  generalize topT b (m : Int) = tp at *
  go_enter Try.func9, Try.ntmps9
  go_wp2_with (go_at_call 12; refine (hc _).mono ?_; rintro e w1 ⟨rfl, hb1⟩; obtain ⟨hc1, hf1⟩ := bcell hb1; have hz1 := hb1.size; (try simp at hz1); (try (have hl10 : w.heap.size < w1.heap.size := (by omega))); (try (have hl11 : w.heap.size + 1 < w1.heap.size := (by omega))); (try (have hl12 : w.heap.size + 1 + 1 < w1.heap.size := (by omega))); (try (have hl13 : w.heap.size + 1 + 1 + 1 < w1.heap.size := (by omega))))
  have k0 : w1.cell? ⟨w.heap.size, 0, none⟩ = some (.int .u16 b) := by rw [hc1 _ _ (by first | omega | (simp <;> omega))]; simp [go_sem]
  have k1 : w1.cell? ⟨w.heap.size, 1, none⟩ = some (.int .i64 m) := by rw [hc1 _ _ (by first | omega | (simp <;> omega))]; simp [go_sem]
  go_region_held3 (fun w' => w'.cell? ⟨w.heap.size, 0, none⟩ = some (.int .u16 b) ∧ w'.cell? ⟨w.heap.size, 1, none⟩ = some (.int .i64 m)) (go_keep) (first | (go_at_call 32; refine (tailT m hm _).mono ?_; rintro e w' ⟨rfl, hw⟩; obtain rfl := hw.symm; clear hw))
  go_wp2
  exact bodyPost_ret (v := .tuple #[.agg #[.int .u16 (b : Nat), .int .u16 (tp : Nat)], .int .i64 0]) (by simp [results, Try.results9, go_sem, hc1, hf1]) rfl ⟨rfl, by (repeat (first | assumption | exact Below.refl _ _ | refine Below.drew ?_ | refine bel_drewN ?_ _ | refine Below.setCell ?_ (by first | omega | (simp; done) | (simp; omega)) _ | refine Below.alloc ?_ (by first | omega | (simp; done) | (simp; omega)) _ | refine bel_of ?_ (by assumption)))⟩
end Go.Proofs.Ytapaoemcjpfpoaa
