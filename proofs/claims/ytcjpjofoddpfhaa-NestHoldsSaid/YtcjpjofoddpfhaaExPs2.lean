/-
  shortest of package expand: the greatest stem from a port on, up to another.
-/
import Derived.Test.YtcjpjofoddpfhaaExPa2
import Derived.WalkMore
namespace Go.Proofs.Ytcjpjofoddpfhaa.Xp
open Go.RowKit
set_option linter.unusedVariables false
set_option linter.unusedSimpArgs false

theorem or_wider (j : Nat) (h : j < 16) : bits .or .u16 ((mk j : Int) * 2) 1 = (mk (j + 1) : Int) := by
  have h1 := wider_nat j (by omega)
  have h2 := mk_lt (show j + 1 ≤ 16 by omega)
  have hp := two_pos j
  have e : mk (j + 1) = mk j * 2 + 1 := by unfold mk; rw [Nat.pow_succ]; omega
  have h3 : mk j * 2 < 65536 := by omega
  have h4 := u16_or_nat (mk j * 2) 1 h3 (by decide)
  have h5 : mk j * 2 ||| 1 = mk (j + 1) := by
    have : (2 ^ j - 1) * 2 % 65536 = mk j * 2 := Nat.mod_eq_of_lt h3
    rw [this, wider_lt j h] at h1
    exact h1
  rw [h5] at h4
  simpa using h4
theorem mf_fin {a hi j : Nat} (h : a ≤ hi) (hj : j ≤ 16) (hd : 2 ^ j ∣ a ∧ 2 ^ j ≤ hi + 1 - a) (hx : j = 16 ∨ a % 2 ^ (j + 1) ≠ 0 ∨ hi - a < mk (j + 1)) : (16 : Int) - (j : Int) = ((16 - mf a (hi + 1 - a) 16 : Nat) : Int) := by
  rw [mf_uniq (f := j) (by omega) hj hd.1 hd.2]
  · omega
  · rcases hx with hx | hx | hx
    · exact .inl hx
    · exact .inr fun hc => hx (Nat.mod_eq_zero_of_dvd hc.1)
    · refine .inr fun hc => ?_
      have := two_pos (j + 1)
      unfold mk at hx
      omega
theorem mf_next {a hi j : Nat} (h : a ≤ hi) (h1 : a % 2 ^ (j + 1) = 0) (h2 : ¬ hi - a < mk (j + 1)) : 2 ^ (j + 1) ∣ a ∧ 2 ^ (j + 1) ≤ hi + 1 - a := by
  refine ⟨Nat.dvd_of_mod_eq_zero h1, ?_⟩
  have := two_pos (j + 1)
  unfold mk at h2
  omega
theorem mk_step {j : Nat} (h : j < 16) : mk j < mk (j + 1) ∧ mk (j + 1) < 65536 := by
  have hp := two_pos j
  have e : mk (j + 1) = mk j * 2 + 1 := by unfold mk; rw [Nat.pow_succ]; omega
  exact ⟨by omega, mk_lt (by omega)⟩
set_option maxHeartbeats 1000000 in
set_option maxRecDepth 20000 in
theorem shortT (a hi : Nat) (h : a ≤ hi) (hh : hi < 65536) (w : World) :
    Calls Try.prog 69 #[.int .u16 a, .int .u16 hi] w fun e w' => e = .returned (.agg #[.int .u16 (a : Nat), .int .i64 ((16 - mf a (hi + 1 - a) 16 : Nat) : Int)]) ∧ Below w.heap.size w w' := by
  have ha : a < 65536 := by omega
  go_enter Try.func69, Try.ntmps69
  go_wp2
  go_step3
  go_wp2
  go_step3
  go_wp2
  go_loopw [6] (fun bv wr => ∃ j : Nat, j ≤ 16 ∧ bv = .int .u16 (mk j : Int) ∧ wr.cell? ⟨w.heap.size + 1, 0, none⟩ = some (.int .u16 a) ∧ wr.cell? ⟨w.heap.size + 1, 1, none⟩ = some (.int .i64 (16 - (j : Int))) ∧ wr.frozen? ⟨w.heap.size + 1, 1, none⟩ = false ∧ wr.cell? ⟨w.heap.size, 0, none⟩ = some (.int .u16 0) ∧ wr.cell? ⟨w.heap.size, 1, none⟩ = some (.int .i64 0) ∧ wr.frozen? ⟨w.heap.size, 0, none⟩ = false ∧ wr.frozen? ⟨w.heap.size, 1, none⟩ = false ∧ Hid (2 ^ j ∣ a ∧ 2 ^ j ≤ hi + 1 - a) ∧ Hid (Below w.heap.size w wr)) (fun bv _ => 65535 - (intOf bv).toNat)
  case atStart => exact ⟨0, by omega, rfl, by simp [go_sem], by simp [go_sem], by simp [go_sem], by simp [go_sem], by simp [go_sem], by simp [go_sem], by simp [go_sem], ⟨by simp, by omega⟩, by show Below _ _ _; (repeat (first | assumption | exact Below.refl _ _ | refine Below.drew ?_ | refine bel_drewN ?_ _ | refine Below.setCell ?_ (by first | omega | (simp; done) | (simp; omega)) _ | refine Below.alloc ?_ (by first | omega | (simp; done) | (simp; omega)) _ | refine bel_of ?_ (by assumption)))⟩
  case round =>
    obtain ⟨j, hj, rfl, c0, c1, f1, r0, r1, g0, g1, hd, hb⟩ := hrel
    have hlt : (mk j : Int) < 65536 := by have := mk_lt hj; omega
    have h0 : (0 : Int) ≤ (mk j : Int) := by omega
    by_cases h16 : j = 16
    · have e16 : (mk j : Int) = 65535 := by rw [h16]; rfl
      have hO : bits .or .u16 65534 1 = 65535 := by decide +kernel
      have HF : Hid ((16 : Int) - (j : Int) = ((16 - mf a (hi + 1 - a) 16 : Nat) : Int)) := mf_fin h hj hd.out (.inl h16)
      clear h16
      rw [e16]
      go_wp2
      rw [Exit.noGoto_ret]
      exact bodyPost_ret (v := .agg #[.int .u16 (a : Nat), .int .i64 (16 - (j : Int))]) (by simp [results, Try.results69, go_sem, *]) rfl ⟨by rw [HF.out], by have := hb.out; (repeat (first | assumption | exact Below.refl _ _ | refine Below.drew ?_ | refine bel_drewN ?_ _ | refine Below.setCell ?_ (by first | omega | (simp; done) | (simp; omega)) _ | refine Below.alloc ?_ (by first | omega | (simp; done) | (simp; omega)) _ | refine bel_of ?_ (by assumption)))⟩
    · have hj' : j < 16 := by omega
      have ⟨s1, s2⟩ := mk_step hj'
      have hO := or_wider j hj'
      have hA := and_mk a (j + 1) ha (by omega)
      have hx1 : a % 2 ^ (j + 1) = 0 → ¬ hi - a < mk (j + 1) → Hid (2 ^ (j + 1) ∣ a ∧ 2 ^ (j + 1) ≤ hi + 1 - a) := fun h1 h2 => mf_next h h1 h2
      have hx2 : a % 2 ^ (j + 1) ≠ 0 ∨ hi - a < mk (j + 1) → Hid ((16 : Int) - (j : Int) = ((16 - mf a (hi + 1 - a) 16 : Nat) : Int)) := fun h1 => mf_fin h hj hd.out (.inr h1)
      have h2 : (mk j : Int) * 2 < 65536 := by
        have hp := two_pos j
        have e : mk (j + 1) = mk j * 2 + 1 := by unfold mk; rw [Nat.pow_succ]; omega
        omega
      obtain ⟨y, hy⟩ : ∃ y : Nat, y = mk (j + 1) := ⟨_, rfl⟩
      obtain ⟨q, hq⟩ : ∃ q : Nat, q = mk j := ⟨_, rfl⟩
      obtain ⟨x, hx⟩ : ∃ x : Nat, x = a % 2 ^ (j + 1) := ⟨_, rfl⟩
      rw [← hy, ← hx] at hx1 hx2 hA
      rw [← hy, ← hq] at hO s1
      rw [← hy] at s2
      rw [← hq] at h2 hlt h0 ⊢
      have HY : Hid (y = mk (j + 1)) := hy
      clear hy hq hx
      have e16 : (q : Int) < 65535 := by omega
      have e17 : ((q : Int) == 65535) = false := by rw [beq_eq_false_iff_ne]; omega
      have e18 : ¬ q = 65535 := by omega
      have hW : IntKind.u16.wrap ((q : Int) * 2) = (q : Int) * 2 := by
        simp [IntKind.wrap, IntKind.signed, IntKind.bits]
        omega
      have hha : (a : Int) ≤ (hi : Int) := by omega
      have hs2 : (y : Int) < 65536 := by omega
      have hs1 : (q : Int) < (y : Int) := by omega
      by_cases hx : x = 0
      · subst hx
        have hA' : bits .and .u16 (a : Int) (y : Int) = 0 := hA
        clear hA
        by_cases hy : hi - a < y
        · have HF := hx2 (.inr hy)
          have hy' : (hi : Int) - (a : Int) < (y : Int) := by omega
          clear hx1 hx2 hy s1 s2 hd hj' h hh ha
          go_wp2
          rw [Exit.noGoto_ret]
          exact bodyPost_ret (v := .agg #[.int .u16 (a : Nat), .int .i64 (16 - (j : Int))]) (by simp [results, Try.results69, go_sem, *]) rfl ⟨by rw [HF.out], by have := hb.out; (repeat (first | assumption | exact Below.refl _ _ | refine Below.drew ?_ | refine bel_drewN ?_ _ | refine Below.setCell ?_ (by first | omega | (simp; done) | (simp; omega)) _ | refine Below.alloc ?_ (by first | omega | (simp; done) | (simp; omega)) _ | refine bel_of ?_ (by assumption)))⟩
        · have HF := hx1 rfl hy
          have hy' : (y : Int) ≤ (hi : Int) - (a : Int) := by omega
          have hy2 : ¬ (hi : Int) - (a : Int) < (y : Int) := by omega
          have hj0 : (j : Int) < 16 := by omega
          have hhi : (hi : Int) < 65536 := by omega
          have ha0 : (0 : Int) ≤ (a : Int) := by omega
          have hj1 : (0 : Int) ≤ (j : Int) := by omega
          clear hx1 hx2 hy s1 s2 h hh ha
          go_wp2
          go_roundw
          case rel =>
            rw [show (16 : Int) - (j : Int) - 1 = 16 - ((j + 1 : Nat) : Int) by omega]
            exact ⟨j + 1, by omega, by rw [HY.out], (World.cell?_setCell_other _ _ _ _ (by simp)).trans c0, World.cell?_setCell_same _ _ _ c1, by rw [World.frozen?_setCell]; exact f1, (World.cell?_setCell_other _ _ _ _ (by simp)).trans r0, (World.cell?_setCell_other _ _ _ _ (by simp)).trans r1, by rw [World.frozen?_setCell]; exact g0, by rw [World.frozen?_setCell]; exact g1, HF, by show Below _ _ _; have := hb.out; (repeat (first | assumption | exact Below.refl _ _ | refine Below.drew ?_ | refine bel_drewN ?_ _ | refine Below.setCell ?_ (by first | omega | (simp; done) | (simp; omega)) _ | refine Below.alloc ?_ (by first | omega | (simp; done) | (simp; omega)) _ | refine bel_of ?_ (by assumption)))⟩
          case measure => simp [intOf]; omega
      · have HF := hx2 (.inl hx)
        have hne2 : (0 : Int) < (x : Int) := by omega
        have hne3 : ((x : Int) != 0) = true := by simpa using hx
        have hne4 : ¬ x = 0 := hx
        clear hx1 hx2 hx s1 s2 h hh ha
        go_wp2
        rw [Exit.noGoto_ret]
        exact bodyPost_ret (v := .agg #[.int .u16 (a : Nat), .int .i64 (16 - (j : Int))]) (by simp [results, Try.results69, go_sem, *]) rfl ⟨by rw [HF.out], by have := hb.out; (repeat (first | assumption | exact Below.refl _ _ | refine Below.drew ?_ | refine bel_drewN ?_ _ | refine Below.setCell ?_ (by first | omega | (simp; done) | (simp; omega)) _ | refine Below.alloc ?_ (by first | omega | (simp; done) | (simp; omega)) _ | refine bel_of ?_ (by assumption)))⟩
end Go.Proofs.Ytcjpjofoddpfhaa.Xp
