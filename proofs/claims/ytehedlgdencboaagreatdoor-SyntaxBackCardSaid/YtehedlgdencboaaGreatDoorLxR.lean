/-
  The document's blank, letter, digit, sign, letters, digits, number of texts (quintetref09).
-/
import Derived.Test.YtehedlgdencboaaGreatDoorLxU
import Derived.Deep.DeepCutAuto
namespace Go.Proofs.YtehedlgdencboaaGreatDoor
open Go.RowKit
set_option linter.unusedVariables false
set_option linter.unusedSimpArgs false

theorem idxS (s : ByteArray) (k : Nat) (h : k < s.size) (w : World) : (Instr.index 9 (.string s) (.int .i64 (k : Int))).run Tryz.prog w = .ok (.int .u8 ((bt s k : Nat) : Int)) w := by
  rw [run_index_string w 9 s .i64 (k : Int) Tryz.underlying9, dif_pos ⟨by omega, by omega⟩, bt_in h]
  rfl
theorem rletter (c : Nat) (w : World) : Calls Tryz.prog 99 #[.int .u8 (c : Int)] w fun e w' => e = .returned (.bool (letterB c)) ∧ w' = w := by
  have he : letterB c = (decide (97 ≤ c) && decide (c ≤ 122)) := by unfold letterB; simp only [Bool.decide_and]
  rw [he]
  clear he
  by_cases h : 97 ≤ c
  · rw [decide_eq_true h, Bool.true_and]
    have h' : (97 : Int) ≤ (c : Int) := by omega
    clear h
    go_enter Tryz.func99, Tryz.ntmps99
    go_wp2
    go_ret
    exact ⟨ret_same (by rw [decide_eq_decide]; omega), rfl⟩
  · rw [decide_eq_false h, Bool.false_and]
    have h' : ¬ (97 : Int) ≤ (c : Int) := by omega
    clear h
    go_enter Tryz.func99, Tryz.ntmps99
    go_wp2
    go_ret
    exact ⟨rfl, rfl⟩
theorem rdigit (c : Nat) (w : World) : Calls Tryz.prog 101 #[.int .u8 (c : Int)] w fun e w' => e = .returned (.bool (digitB c)) ∧ w' = w := by
  have he : digitB c = (decide (48 ≤ c) && decide (c ≤ 57)) := by unfold digitB; simp only [Bool.decide_and]
  rw [he]
  clear he
  by_cases h : 48 ≤ c
  · rw [decide_eq_true h, Bool.true_and]
    have h' : (48 : Int) ≤ (c : Int) := by omega
    clear h
    go_enter Tryz.func101, Tryz.ntmps101
    go_wp2
    go_ret
    exact ⟨ret_same (by rw [decide_eq_decide]; omega), rfl⟩
  · rw [decide_eq_false h, Bool.false_and]
    have h' : ¬ (48 : Int) ≤ (c : Int) := by omega
    clear h
    go_enter Tryz.func101, Tryz.ntmps101
    go_wp2
    go_ret
    exact ⟨rfl, rfl⟩
theorem rblank (c : Nat) (w : World) : Calls Tryz.prog 98 #[.int .u8 (c : Int)] w fun e w' => e = .returned (.bool (blankB c)) ∧ w' = w := by
  go_enter Tryz.func98, Tryz.ntmps98
  go_wp2
  all_goals
    go_ret
    exact ⟨ret_same (by unfold blankB; rw [Bool.eq_iff_iff]; simp <;> omega), rfl⟩
theorem rsign (c : Nat) (w : World) : Calls Tryz.prog 104 #[.int .u8 (c : Int)] w fun e w' => e = .returned (.bool (signB c)) ∧ w' = w := by
  go_enter Tryz.func104, Tryz.ntmps104
  go_wp2
  all_goals
    go_ret
    exact ⟨ret_same (by unfold signB; rw [Bool.eq_iff_iff]; simp <;> omega), rfl⟩
theorem run_step {p : Nat → Bool} {i k e : Nat} (h1 : i ≤ k) (h2 : k ≤ runB p i e) : (k < e ∧ p k = true → k + 1 ≤ runB p i e) ∧ (¬ (k < e ∧ p k = true) → runB p i e = k) := by
  have h := run_from (p := p) (e := e) _ i k rfl h1 h2
  refine ⟨fun c => ?_, fun c => ?_⟩
  · rw [← h]; exact run_gt c.1 c.2
  · rw [← h, runB_end c]
set_option maxHeartbeats 1000000 in
theorem rletters (s : ByteArray) (i : Nat) (w : World) (hi : i ≤ s.size) (hs : s.size ≤ 65536) :
    Calls Tryz.prog 100 #[.string s, .int .i64 (i : Int)] w fun e w' => e = .returned (.int .i64 ((runB (fun k => letterB (bt s k)) i s.size - i : Nat) : Int)) ∧ w' = w := by
  obtain ⟨E, hE⟩ : ∃ E, E = runB (fun k => letterB (bt s k)) i s.size := ⟨_, rfl⟩
  have hle : E ≤ s.size := by rw [hE]; exact run_le _ hi
  have hge : i ≤ E := by rw [hE]; exact run_ge _ _ _
  have HS : Hid (∀ k, i ≤ k → k ≤ E → (k < s.size ∧ letterB (bt s k) = true → k + 1 ≤ E) ∧ (¬ (k < s.size ∧ letterB (bt s k) = true) → E = k)) := fun k h1 h2 => by rw [hE] at h2 ⊢; exact run_step h1 h2
  rw [← hE]
  clear hE
  obtain ⟨n, hn⟩ : ∃ n, n = s.size := ⟨_, rfl⟩
  have HN : Hid (n = s.size) := hn
  rw [← hn] at hs hle
  have hlen : ∀ W, (Builtin.len_ #[9] 3 #[.string s]).run Tryz.prog W = .ok (.int .i64 (n : Int)) W := fun W => by rw [run_len_string W 9 3 s Tryz.underlying9, hn]; rfl
  clear hn hi
  go_enter Tryz.func100, Tryz.ntmps100
  go_wp2
  go_loopw [5] (fun v wr => ∃ k : Nat, i + k ≤ E ∧ v = .int .i64 (k : Int) ∧ wr = w) (fun v _ => 65536 - (intOf v).toNat)
  case atStart => exact ⟨0, hge, rfl, rfl⟩
  case round =>
    obtain ⟨k, hk, rfl, hwr⟩ := hrel
    subst hwr
    obtain ⟨q1, q2⟩ := HS.out (i + k) (by omega) hk
    have HQ1 : Hid (i + k < s.size ∧ letterB (bt s (i + k)) = true → i + k + 1 ≤ E) := q1
    have HQ2 : Hid (¬ (i + k < s.size ∧ letterB (bt s (i + k)) = true) → E = i + k) := q2
    clear q1 q2
    by_cases h : i + k < n
    · have h' : (i : Int) + (k : Int) < (n : Int) := by omega
      have hix := idxS s (i + k) (by rw [← HN.out]; exact h)
      rw [show ((i + k : Nat) : Int) = (i : Int) + (k : Int) by omega] at hix
      have hl := rletter (bt s (i + k))
      cases hp : letterB (bt s (i + k))
      · have HE : Hid (E = i + k) := HQ2.out (fun c => by rw [hp] at c; cases c.2)
        rw [hp] at hl
        generalize bt s (i + k) = c at *
        clear hp HQ1 HQ2 HS
        go_wp2_with (go_at_call 99; refine (hl _).mono ?_; rintro e w' ⟨rfl, hw⟩; obtain rfl := hw.symm; clear hw)
        go_ret
        exact ⟨ret_int (by have := HE.out; omega), rfl⟩
      · have HE : Hid (i + k + 1 ≤ E) := HQ1.out ⟨by rw [← HN.out]; exact h, hp⟩
        rw [hp] at hl
        generalize bt s (i + k) = c at *
        clear hp HQ1 HQ2 HS
        go_wp2_with (go_at_call 99; refine (hl _).mono ?_; rintro e w' ⟨rfl, hw⟩; obtain rfl := hw.symm; clear hw)
        go_roundw
        case rel => exact ⟨k + 1, by have := HE.out; omega, by go_num, trivial⟩
        case measure => have := HE.out; simp [intOf]; omega
    · have h' : ¬ (i : Int) + (k : Int) < (n : Int) := by omega
      have HE : Hid (E = i + k) := HQ2.out (fun c => by have := c.1; rw [← HN.out] at this; exact h this)
      clear HQ1 HQ2 HS
      go_wp2
      go_ret
      exact ⟨ret_int (by have := HE.out; omega), rfl⟩
set_option maxHeartbeats 1000000 in
theorem rdigits (s : ByteArray) (i : Nat) (w : World) (hi : i ≤ s.size) (hs : s.size ≤ 65536) :
    Calls Tryz.prog 102 #[.string s, .int .i64 (i : Int)] w fun e w' => e = .returned (.int .i64 ((runB (fun k => digitB (bt s k)) i s.size - i : Nat) : Int)) ∧ w' = w := by
  obtain ⟨E, hE⟩ : ∃ E, E = runB (fun k => digitB (bt s k)) i s.size := ⟨_, rfl⟩
  have hle : E ≤ s.size := by rw [hE]; exact run_le _ hi
  have hge : i ≤ E := by rw [hE]; exact run_ge _ _ _
  have HS : Hid (∀ k, i ≤ k → k ≤ E → (k < s.size ∧ digitB (bt s k) = true → k + 1 ≤ E) ∧ (¬ (k < s.size ∧ digitB (bt s k) = true) → E = k)) := fun k h1 h2 => by rw [hE] at h2 ⊢; exact run_step h1 h2
  rw [← hE]
  clear hE
  obtain ⟨n, hn⟩ : ∃ n, n = s.size := ⟨_, rfl⟩
  have HN : Hid (n = s.size) := hn
  rw [← hn] at hs hle
  have hlen : ∀ W, (Builtin.len_ #[9] 3 #[.string s]).run Tryz.prog W = .ok (.int .i64 (n : Int)) W := fun W => by rw [run_len_string W 9 3 s Tryz.underlying9, hn]; rfl
  clear hn hi
  go_enter Tryz.func102, Tryz.ntmps102
  go_wp2
  go_loopw [5] (fun v wr => ∃ k : Nat, i + k ≤ E ∧ v = .int .i64 (k : Int) ∧ wr = w) (fun v _ => 65536 - (intOf v).toNat)
  case atStart => exact ⟨0, hge, rfl, rfl⟩
  case round =>
    obtain ⟨k, hk, rfl, hwr⟩ := hrel
    subst hwr
    obtain ⟨q1, q2⟩ := HS.out (i + k) (by omega) hk
    have HQ1 : Hid (i + k < s.size ∧ digitB (bt s (i + k)) = true → i + k + 1 ≤ E) := q1
    have HQ2 : Hid (¬ (i + k < s.size ∧ digitB (bt s (i + k)) = true) → E = i + k) := q2
    clear q1 q2
    by_cases h : i + k < n
    · have h' : (i : Int) + (k : Int) < (n : Int) := by omega
      have hix := idxS s (i + k) (by rw [← HN.out]; exact h)
      rw [show ((i + k : Nat) : Int) = (i : Int) + (k : Int) by omega] at hix
      have hl := rdigit (bt s (i + k))
      cases hp : digitB (bt s (i + k))
      · have HE : Hid (E = i + k) := HQ2.out (fun c => by rw [hp] at c; cases c.2)
        rw [hp] at hl
        generalize bt s (i + k) = c at *
        clear hp HQ1 HQ2 HS
        go_wp2_with (go_at_call 101; refine (hl _).mono ?_; rintro e w' ⟨rfl, hw⟩; obtain rfl := hw.symm; clear hw)
        go_ret
        exact ⟨ret_int (by have := HE.out; omega), rfl⟩
      · have HE : Hid (i + k + 1 ≤ E) := HQ1.out ⟨by rw [← HN.out]; exact h, hp⟩
        rw [hp] at hl
        generalize bt s (i + k) = c at *
        clear hp HQ1 HQ2 HS
        go_wp2_with (go_at_call 101; refine (hl _).mono ?_; rintro e w' ⟨rfl, hw⟩; obtain rfl := hw.symm; clear hw)
        go_roundw
        case rel => exact ⟨k + 1, by have := HE.out; omega, by go_num, trivial⟩
        case measure => have := HE.out; simp [intOf]; omega
    · have h' : ¬ (i : Int) + (k : Int) < (n : Int) := by omega
      have HE : Hid (E = i + k) := HQ2.out (fun c => by have := c.1; rw [← HN.out] at this; exact h this)
      clear HQ1 HQ2 HS
      go_wp2
      go_ret
      exact ⟨ret_int (by have := HE.out; omega), rfl⟩
theorem subU8 (c : Nat) (h1 : 48 ≤ c) (h2 : c ≤ 57) : IntKind.u8.wrap ((c : Int) - 48) = ((c - 48 : Nat) : Int) := by
  rw [show ∀ x : Int, IntKind.u8.wrap x = x % 256 from fun x => rfl]; omega
set_option maxHeartbeats 2000000 in
theorem rnumber (s : ByteArray) (w : World) (h0 : 0 < s.size) (hs : s.size ≤ 65536) (hd : ∀ k, k < s.size → digitB (bt s k) = true) :
    Calls Tryz.prog 103 #[.string s] w fun e w' => e = .returned (.tuple #[.int .u32 ((if numOk s 0 s.size then numF s 0 s.size else 0 : Nat) : Int), .bool (numOk s 0 s.size)]) ∧ w' = w := by
  obtain ⟨n, hn⟩ : ∃ n, n = s.size := ⟨_, rfl⟩
  have HN : Hid (n = s.size) := hn
  have hlen : ∀ W, (Builtin.len_ #[9] 3 #[.string s]).run Tryz.prog W = .ok (.int .i64 (n : Int)) W := fun W => by rw [run_len_string W 9 3 s Tryz.underlying9, hn]; rfl
  rw [← hn] at h0 hs hd ⊢
  have HD : Hid (∀ k, k < n → digitB (bt s k) = true) := hd
  have hi0 := idxS s 0 (by rw [← hn]; exact h0)
  obtain ⟨A, hA⟩ : ∃ A : Nat, A = if numOk s 0 n then numF s 0 n else 0 := ⟨_, rfl⟩
  obtain ⟨B, hB⟩ : ∃ B : Bool, B = numOk s 0 n := ⟨_, rfl⟩
  rw [← hA, ← hB]
  have HA : Hid (A = if numOk s 0 n then numF s 0 n else 0) := hA
  have HB : Hid (B = numOk s 0 n) := hB
  clear hA hB
  by_cases hz : 1 < n ∧ bt s 0 = 48
  · have HF : Hid (numOk s 0 n = false) := by show _ = _; unfold numOk; simp [hz.1, hz.2]
    obtain ⟨z1, z2⟩ := hz
    rw [z2] at hi0
    replace hi0 : ∀ W, (Instr.index 9 (.string s) (.int .i64 0)).run Tryz.prog W = .ok (.int .u8 48) W := hi0
    have z1' : (1 : Int) < (n : Int) := by omega
    clear hn hd
    go_enter Tryz.func103, Tryz.ntmps103
    go_wp2
    exact bodyPost_ret (v := .tuple #[.int .u32 0, .bool false]) (by simp [results, Tryz.results103, go_sem]) rfl ⟨by rw [HA.out, HB.out, HF.out]; rfl, rfl⟩
  · have HOK : Hid (numOk s 0 n = decide (numF s 0 n ≤ 4294967295)) := by
      show _ = _
      unfold numOk
      have e : (!(decide (1 < n - 0) && decide (bt s 0 = 48))) = true := by
        cases e1 : decide (1 < n - 0)
        · rfl
        · cases e2 : decide (bt s 0 = 48)
          · rfl
          · exact absurd ⟨by have := of_decide_eq_true e1; omega, of_decide_eq_true e2⟩ hz
      rw [e, Bool.true_and]
      rfl
    have hc : (¬ (1 : Int) < (n : Int)) ∨ ((1 : Int) < (n : Int) ∧ ¬ ((bt s 0 : Nat) : Int) = 48) := by
      by_cases c : 1 < n
      · exact .inr ⟨by omega, fun e => hz ⟨c, by omega⟩⟩
      · exact .inl (by omega)
    have hi0' : ∀ W, (Instr.index 9 (.string s) (.int .i64 0)).run Tryz.prog W = .ok (.int .u8 ((bt s 0 : Nat) : Int)) W := hi0
    clear hn hd hz hi0
    generalize bt s 0 = c0 at hc hi0'
    rcases hc with hc | ⟨hc, hc2⟩
    all_goals
      go_enter Tryz.func103, Tryz.ntmps103
      go_upto_region 3 with (fail)
      clear hc hi0'
      go_wp2_with (fail)
      go_loopw [4, 5] (fun vv iv wr => ∃ k x : Nat, k ≤ n ∧ iv = .int .i64 (k : Int) ∧ vv = .int .u64 (x : Int) ∧ Hid (x = numF s 0 k ∧ x ≤ 4294967295) ∧ wr = w) (fun _ iv _ => n - (intOf iv).toNat)
      case atStart => exact ⟨0, 0, Nat.zero_le _, rfl, rfl, ⟨rfl, by decide⟩, rfl⟩
      case round =>
        obtain ⟨k, x, hk, rfl, rfl, HX, hwr⟩ := hrel
        subst hwr
        by_cases hlt : k < n
        · have hix := idxS s k (by rw [← HN.out]; exact hlt)
          have hdg := HD.out k hlt
          unfold digitB at hdg
          have hdg := of_decide_eq_true hdg
          obtain ⟨d, hdd⟩ : ∃ d, d = bt s k - 48 := ⟨_, rfl⟩
          have hsub := subU8 (bt s k) hdg.1 hdg.2
          rw [← hdd] at hsub
          have hd9 : d ≤ 9 := by omega
          obtain ⟨hx1, hx2⟩ := HX.out
          have HY : Hid (10 * x + d = numF s 0 (k + 1)) := by show _ = _; rw [hx1, hdd]; show _ = 10 * numF s 0 k + (bt s (0 + k) - 48); rw [Nat.zero_add]
          have hw : ∀ y : Int, IntKind.u64.wrap y = y % 18446744073709551616 := fun y => rfl
          have m1 : IntKind.u64.wrap (10 * (x : Int)) = 10 * (x : Int) := by rw [hw]; omega
          have m2 : IntKind.u64.wrap (d : Int) = (d : Int) := by rw [hw]; omega
          have m3 : IntKind.u64.wrap (10 * (x : Int) + (d : Int)) = ((10 * x + d : Nat) : Int) := by rw [hw]; omega
          obtain ⟨y, hy⟩ : ∃ y : Nat, y = 10 * x + d := ⟨_, rfl⟩
          rw [← hy] at m3 HY
          have hlt' : (k : Int) < (n : Int) := by omega
          generalize bt s k = cc at *
          clear hdg hdd hd9 hx1 hx2 hw hy HX hlen hlt
          have hlen : ∀ W, (Builtin.len_ #[9] 3 #[.string s]).run Tryz.prog W = .ok (.int .i64 (n : Int)) W := fun W => by rw [run_len_string W 9 3 s Tryz.underlying9, HN.out]; rfl
          by_cases hbig : 4294967295 < y
          · have hbig' : (4294967295 : Int) < (y : Int) := by omega
            have HF : Hid (numOk s 0 n = false) := by show _ = _; rw [HOK.out]; exact decide_eq_false (by have := numF_le s 0 (k + 1) n (by omega); rw [← HY.out] at this; omega)
            go_wp2_with (fail)
            exact bodyPost_ret (v := .tuple #[.int .u32 0, .bool false]) (by simp [results, Tryz.results103, go_sem]) rfl ⟨by rw [HA.out, HB.out, HF.out]; rfl, rfl⟩
          · have hbig' : ¬ (4294967295 : Int) < (y : Int) := by omega
            have HL : Hid (y ≤ 4294967295) := by show _ ≤ _; omega
            go_wp2_with (fail)
            go_roundw
            case rel => exact ⟨k + 1, y, by omega, by go_num, rfl, ⟨HY.out, HL.out⟩, trivial⟩
            case measure => simp [intOf]; omega
        · obtain rfl : k = n := by omega
          obtain ⟨hx1, hx2⟩ := HX.out
          have HF : Hid (numOk s 0 k = true) := by show _ = _; rw [HOK.out]; exact decide_eq_true (by rw [← hx1]; exact hx2)
          have HX1 : Hid (x = numF s 0 k) := hx1
          have m4 : IntKind.u32.wrap (x : Int) = (x : Int) := by rw [show ∀ y : Int, IntKind.u32.wrap y = y % 4294967296 from fun y => rfl]; omega
          have hlt' : ¬ (k : Int) < (k : Int) := by omega
          clear hx1 hx2 HX
          go_wp2_with (fail)
          exact bodyPost_ret (v := .tuple #[.int .u32 (x : Int), .bool true]) (by simp [results, Tryz.results103, go_sem]) rfl ⟨by rw [HA.out, HB.out, HF.out, HX1.out]; rfl, rfl⟩
end Go.Proofs.YtehedlgdencboaaGreatDoor
