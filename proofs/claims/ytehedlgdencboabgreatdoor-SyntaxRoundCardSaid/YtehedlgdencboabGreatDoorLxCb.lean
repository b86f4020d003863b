/-
  The scanner's longest row, first line, a number's value.
-/
import Derived.Test.YtehedlgdencboabGreatDoorLxCa
import Derived.Test.YtehedlgdencboabGreatDoorLxIs
namespace Go.Proofs.YtehedlgdencboabGreatDoor
open Go.RowKit
set_option linter.unusedVariables false
set_option linter.unusedSimpArgs false

theorem cnvU (c : Nat) (h : c ≤ 4294967295) (w : World) : (convert 129 42 (.int .u64 (c : Int))).run Tryz.prog w = .ok (.int .u32 (c : Int)) w := by
  rw [run_convert_int w 129 42 .u64 (c : Int) (by kernel_rfl) (by kernel_rfl)]
  have e : Tryz.prog.intKind 42 = .u32 := by kernel_rfl
  rw [e, IntKind.wrap_u32, Int.emod_eq_of_lt (by omega) (by omega)]
set_option maxHeartbeats 4000000 in
theorem longestC (s : ByteArray) (w : World) (h0 : 0 < s.size) (hs : s.size ≤ 65536) :
    Calls Tryz.prog 94 #[.string s] w fun e w' => e = .returned (.string (s.extract 0 (rowE s 0))) ∧ w' = w := by
  obtain ⟨E, hE⟩ : ∃ E, E = rowE s 0 := ⟨_, rfl⟩
  have hle : E ≤ s.size := by rw [hE]; exact rowE_le h0
  have hge : 1 ≤ E := by rw [hE]; exact rowE_gt h0
  obtain ⟨K, hK⟩ : ∃ K, K = kd (bt s 0) := ⟨_, rfl⟩
  have HS : Hid (∀ k, 0 ≤ k → k ≤ E → (k < s.size ∧ decide (kd (bt s k) = K) = true → k + 1 ≤ E) ∧ (¬ (k < s.size ∧ decide (kd (bt s k) = K) = true) → E = k)) := fun k h1 h2 => by
    rw [hK]; rw [hE] at h2 ⊢; unfold rowE at h2 ⊢; exact run_step (p := fun k => decide (kd (bt s k) = kd (bt s 0))) h1 h2
  have hx0 : ∀ W, (Instr.index 9 (.string s) (.int .i64 0)).run Tryz.prog W = .ok (.int .u8 ((bt s 0 : Nat) : Int)) W := fun W => idxS s 0 h0 W
  have hb0 := beginsC (bt s 0)
  rw [← hE]
  rw [← hK] at hb0
  clear hE hK
  have hsl := slTo s E hle
  have hcv0 := cnvB (bt s 0) (bt_lt s 0)
  generalize bt s 0 = c0 at *
  obtain ⟨n, hn⟩ : ∃ n, n = s.size := ⟨_, rfl⟩
  have HN : Hid (n = s.size) := hn
  rw [← hn] at hs hle
  have hlen := lenS s n hn
  clear hn h0
  go_enter Tryz.func94, Tryz.ntmps94
  go_wp2_with (go_at_call 93; refine (hb0 _).mono ?_; rintro e w' ⟨rfl, hw⟩; obtain rfl := hw.symm; clear hw)
  go_loopw [4] (fun v wr => ∃ k : Nat, 1 ≤ k ∧ k ≤ E ∧ v = .int .i64 (k : Int) ∧ wr = w) (fun v _ => 65536 - (intOf v).toNat)
  case atStart => exact ⟨1, Nat.le_refl _, hge, rfl, rfl⟩
  case round =>
    obtain ⟨k, hk1, hk, rfl, hwr⟩ := hrel
    subst hwr
    obtain ⟨q1, q2⟩ := HS.out k (by omega) hk
    have HQ1 : Hid (k < s.size ∧ decide (kd (bt s k) = K) = true → k + 1 ≤ E) := q1
    have HQ2 : Hid (¬ (k < s.size ∧ decide (kd (bt s k) = K) = true) → E = k) := q2
    clear q1 q2 hb0 hx0 hcv0
    by_cases h : k < n
    · have h' : (k : Int) < (n : Int) := by omega
      have hix := idxS s k (by rw [← HN.out]; exact h)
      have hl := beginsC (bt s k)
      have hcv := cnvB (bt s k) (bt_lt s k)
      by_cases hp : kd (bt s k) = K
      · have HE : Hid (k + 1 ≤ E) := HQ1.out ⟨by rw [← HN.out]; exact h, by simp [hp]⟩
        rw [hp] at hl
        generalize bt s k = c at *
        clear hp HQ1 HQ2 HS
        go_wp2_with (go_at_call 93; refine (hl _).mono ?_; rintro e w' ⟨rfl, hw⟩; obtain rfl := hw.symm; clear hw)
        go_roundw
        case rel => exact ⟨k + 1, by omega, by have := HE.out; omega, by go_num, trivial⟩
        case measure => have := HE.out; simp [intOf]; omega
      · have HE : Hid (E = k) := HQ2.out (fun c => hp (by simpa using c.2))
        have hp' : ¬ (kd (bt s k) : Int) = (K : Int) := by omega
        generalize kd (bt s k) = m at *
        generalize bt s k = c at *
        clear hp HQ1 HQ2 HS
        have HSL : Hid (∀ W, (Instr.slice 9 (.string s) none (some (.int .i64 (E : Int))) none).run Tryz.prog W = .ok (.string (s.extract 0 E)) W) := hsl
        obtain rfl := HE.out
        go_wp2_with (go_at_call 93; refine (hl _).mono ?_; rintro e w' ⟨rfl, hw⟩; obtain rfl := hw.symm; clear hw)
        go_ret
        exact ⟨rfl, rfl⟩
    · have h' : ¬ (k : Int) < (n : Int) := by omega
      have HE : Hid (E = k) := HQ2.out (fun c => by have := c.1; rw [← HN.out] at this; exact h this)
      clear HQ1 HQ2 HS
      obtain rfl := HE.out
      go_wp2
      go_ret
      exact ⟨rfl, rfl⟩
set_option maxHeartbeats 4000000 in
theorem firstC (s : ByteArray) (w : World) (hs : s.size ≤ 65536) :
    Calls Tryz.prog 83 #[.string s] w fun e w' => e = .returned (.string (s.extract 0 (rowR s 0))) ∧ w' = w := by
  have hI := indexNl s
  by_cases h : endOf s 0 < s.size
  · have hR : rowR s 0 = endOf s 0 + 1 := if_pos h
    rw [hR]
    rw [if_pos h] at hI
    have hsl := slTo s (endOf s 0 + 1) h
    generalize endOf s 0 = E at *
    rw [show ((E + 1 : Nat) : Int) = (E : Int) + 1 by omega] at hsl
    have hb : (E : Int) < 65536 := by omega
    have hb' : (0 : Int) ≤ (E : Int) := by omega
    clear hR h hs
    go_enter Tryz.func83, Tryz.ntmps83
    go_wp2_with (go_at_call 91; refine (hI _).mono ?_; rintro e w' ⟨rfl, hw⟩; obtain rfl := hw.symm; clear hw)
    go_ret
    exact ⟨rfl, rfl⟩
  · have hR : rowR s 0 = s.size := if_neg h
    rw [hR, ByteArray.extract_zero_size]
    rw [if_neg h] at hI
    clear hR h hs
    go_enter Tryz.func83, Tryz.ntmps83
    go_wp2_with (go_at_call 91; refine (hI _).mono ?_; rintro e w' ⟨rfl, hw⟩; obtain rfl := hw.symm; clear hw)
    go_ret
    exact ⟨rfl, rfl⟩
set_option maxRecDepth 20000 in
set_option maxHeartbeats 4000000 in
theorem valueC (d : ByteArray) (w : World) (h0 : 0 < d.size) (hs : d.size ≤ 65536) (hd : ∀ k, k < d.size → kd (bt d k) = 4) (hg : Hnd w) :
    Calls Tryz.prog 95 #[.string d] w fun e w' => e = .returned (.tuple #[.int .u32 (valV d : Int), .int .i64 (valE d : Int)]) ∧ Below w.heap.size w w' := by
  have hx0 : ∀ W, (Instr.index 9 (.string d) (.int .i64 0)).run Tryz.prog W = .ok (.int .u8 ((bt d 0 : Nat) : Int)) W := fun W => idxS d 0 h0 W
  have hp := parse_is h0 hd
  obtain ⟨n, hn⟩ : ∃ n, n = d.size := ⟨_, rfl⟩
  have hlen := lenS d n hn
  obtain ⟨te, pe, he⟩ := hg.er
  by_cases hz : 1 < n ∧ bt d 0 = 48
  · have hok : numOk d 0 d.size = false := by
      unfold numOk
      rw [Nat.sub_zero, ← hn, decide_eq_true hz.1, decide_eq_true hz.2]; rfl
    have eV : valV d = 0 := by unfold valV; rw [hok]; rfl
    have eE : valE d = 91 := by unfold valE; rw [hok]; rfl
    rw [eV, eE]
    have h1 : (1 : Int) < (n : Int) := by omega
    rw [hz.2] at hx0
    clear hp hok eV eE hz hn hd he
    go_enter Tryz.func95, Tryz.ntmps95
    go_wp2
    go_ret2
    exact ⟨by first | rfl | simp, Below.refl _ _⟩
  · have hok : numOk d 0 d.size = decide (numF d 0 d.size ≤ 4294967295) := by
      unfold numOk
      rw [Nat.sub_zero, ← hn, ← Bool.decide_and, decide_eq_false hz]; simp
    by_cases hv : numF d 0 d.size ≤ 4294967295
    · have eV : valV d = numF d 0 d.size := by unfold valV; rw [hok, decide_eq_true hv]; rfl
      have eE : valE d = 0 := by unfold valE; rw [hok, decide_eq_true hv]; rfl
      rw [if_pos hv] at hp
      have hc := parseOk d (by omega) _ hp
      rw [eV, eE]
      generalize numF d 0 d.size = u at *
      have hcv := cnvU u hv
      clear hp hok eV eE hn hd he hv
      by_cases h1 : 1 < n
      · have h1' : (1 : Int) < (n : Int) := by omega
        have h2 : ¬ ((bt d 0 : Nat) : Int) = 48 := by omega
        obtain ⟨c0, hc0⟩ : ∃ c, c = bt d 0 := ⟨_, rfl⟩
        rw [← hc0] at hx0 h2
        clear hc0
        clear hz
        go_enter Tryz.func95, Tryz.ntmps95
        go_wp2_with (go_at_call 105; refine (hc _).mono ?_; rintro e w1 ⟨rfl, hb1⟩; have HB1 : Hid (Below w.heap.size w w1) := hb1; clear hb1)
        go_ret2
        exact ⟨by first | rfl | simp | (simp; omega), HB1.out⟩
      · have h1' : ¬ (1 : Int) < (n : Int) := by omega
        clear hz
        go_enter Tryz.func95, Tryz.ntmps95
        go_wp2_with (go_at_call 105; refine (hc _).mono ?_; rintro e w1 ⟨rfl, hb1⟩; have HB1 : Hid (Below w.heap.size w w1) := hb1; clear hb1)
        go_ret2
        exact ⟨by first | rfl | simp | (simp; omega), HB1.out⟩
    · have eV : valV d = 0 := by unfold valV; rw [hok, decide_eq_false hv]; rfl
      have eE : valE d = 91 := by unfold valE; rw [hok, decide_eq_false hv]; rfl
      rw [if_neg hv] at hp
      have hc := parseRange d (by omega) hp te pe w he
      rw [eV, eE]
      clear hp hok eV eE hn hd he hv
      by_cases h1 : 1 < n
      · have h1' : (1 : Int) < (n : Int) := by omega
        have h2 : ¬ ((bt d 0 : Nat) : Int) = 48 := by omega
        obtain ⟨c0, hc0⟩ : ∃ c, c = bt d 0 := ⟨_, rfl⟩
        rw [← hc0] at hx0 h2
        clear hc0
        clear hz
        go_enter Tryz.func95, Tryz.ntmps95
        go_wp2_with (go_at_call 105; refine hc.mono ?_; rintro e w1 ⟨⟨N, rfl⟩, hb1⟩; have HB1 : Hid (Below w.heap.size w w1) := hb1; clear hb1)
        go_ret2
        exact ⟨by first | rfl | simp, HB1.out⟩
      · have h1' : ¬ (1 : Int) < (n : Int) := by omega
        clear hz
        go_enter Tryz.func95, Tryz.ntmps95
        go_wp2_with (go_at_call 105; refine hc.mono ?_; rintro e w1 ⟨⟨N, rfl⟩, hb1⟩; have HB1 : Hid (Below w.heap.size w w1) := hb1; clear hb1)
        go_ret2
        exact ⟨by first | rfl | simp, HB1.out⟩
end Go.Proofs.YtehedlgdencboabGreatDoor
