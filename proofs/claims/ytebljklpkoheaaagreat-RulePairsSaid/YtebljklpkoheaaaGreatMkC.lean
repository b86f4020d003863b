/-
  Within and Meet of the document's answer.
-/
import Derived.Test.YtebljklpkoheaaaGreatMkB
import Derived.Deep.RegionWith
namespace Go.Proofs.YtebljklpkoheaaaGreat
open Go.RowKit
set_option linter.unusedVariables false
set_option linter.unusedSimpArgs false

theorem u8_conv (k : Nat) (h : k < 256) : (k : Int) % 256 = (k : Int) := by omega
set_option maxHeartbeats 1000000 in
theorem rwithinM (v c x d : Nat) (w : World) (hv : v < 256) (hc : c < 256) (hx : x < 256) (hd : d < 256) :
    Calls Tryz.prog 53 #[.agg #[.int .u8 v, .int .u8 c], .agg #[.int .u8 x, .int .u8 d]] w fun e w' => e = .returned (.bool (wiM v c x d)) ∧ Below w.heap.size w w' := by
  go_enter Tryz.func53, Tryz.ntmps53
  go_wp2_with (fail)
  go_loopw [5] (fun i wr => ∃ k : Nat, k ≤ 256 ∧ i = .int .i64 k ∧ Hid (∀ p, p < k → hasM v c p = true → hasM x d p = true) ∧ wr.cell? ⟨w.heap.size, 0, none⟩ = some (.int .u8 v) ∧ wr.cell? ⟨w.heap.size, 1, none⟩ = some (.int .u8 c) ∧ wr.cell? ⟨w.heap.size + 1, 0, none⟩ = some (.int .u8 x) ∧ wr.cell? ⟨w.heap.size + 1, 1, none⟩ = some (.int .u8 d) ∧ Hid (Below w.heap.size w wr)) (fun i _ => 256 - (intOf i).toNat)
  case atStart => exact ⟨0, Nat.zero_le _, rfl, fun j hj => by omega, by simp [go_sem], by simp [go_sem], by simp [go_sem], by simp [go_sem], by show Below _ _ _; (repeat (first | assumption | exact Below.refl _ _ | refine Below.drew ?_ | refine bel_drewN ?_ _ | refine Below.setCell ?_ (by first | omega | (simp; done) | (simp; omega)) _ | refine Below.alloc ?_ (by first | omega | (simp; done) | (simp; omega)) _ | refine bel_of ?_ (by assumption)))⟩
  case round =>
    obtain ⟨k, hk, rfl, hag, a0, a1, b0, b1, hbw⟩ := hrel
    have hz := hbw.out.size
    have hB : w.heap.size + 1 < wr.heap.size := World.block_lt_of_cell? _ _ b0
    by_cases hlt : k < 256
    · have hlt' : (k : Int) < 256 := by omega
      go_wp2_with (fail)
      refine (rhasM v c k _ hv hc hlt).mono ?_
      rintro e w1 ⟨rfl, hb1⟩
      have A0 := cell_on1 hb1 a0
      have A1 := cell_on1 hb1 a1
      have B0 := cell_on1 hb1 b0
      have B1 := cell_on1 hb1 b1
      have hbw1 : Hid (Below w.heap.size w w1) := hbw.out.trans (hb1.mono hz)
      have hz1 := hbw1.out.size
      clear a0 a1 b0 b1 hb1 hbw
      cases h1 : hasM v c k
      · go_wp2_with (fail)
        go_roundw
        case rel => exact ⟨k + 1, by omega, by go_num, fun p hp hh => by
          by_cases ep : p = k
          · subst ep; rw [h1] at hh; cases hh
          · exact hag.out p (by omega) hh, A0, A1, B0, B1, hbw1.out⟩
        case measure => simp [intOf]; omega
      · go_wp2_with (fail)
        refine (rhasM x d k _ hx hd hlt).mono ?_
        rintro e w2 ⟨rfl, hb2⟩
        have C0 := cell_on1 hb2 A0
        have C1 := cell_on1 hb2 A1
        have D0 := cell_on1 hb2 B0
        have D1 := cell_on1 hb2 B1
        have hbw2 : Hid (Below w.heap.size w w2) := hbw1.out.trans (hb2.mono hz1)
        clear A0 A1 B0 B1 hb2 hbw1
        cases h2 : hasM x d k
        · go_wp2_with (fail)
          go_ret
          refine ⟨ret_same ?_, hbw2.out⟩
          cases hw : wiM v c x d
          · rfl
          · rw [within_has hw h1] at h2; cases h2
        · go_wp2_with (fail)
          go_roundw
          case rel => exact ⟨k + 1, by omega, by go_num, fun p hp hh => by
            by_cases ep : p = k
            · subst ep; exact h2
            · exact hag.out p (by omega) hh, C0, C1, D0, D1, hbw2.out⟩
          case measure => simp [intOf]; omega
    · obtain rfl : k = 256 := by omega
      have hcal := fun W => rcheckM v c W hv hc
      have hcal2 := fun W => rcheckM x d W hx hd
      go_wp2_with (fail)
      refine (hcal _).mono ?_
      rintro e w1 ⟨rfl, hb1⟩
      have B0 := cell_on1 hb1 b0
      have B1 := cell_on1 hb1 b1
      have hbw1 : Hid (Below w.heap.size w w1) := hbw.out.trans (hb1.mono hz)
      have hz1 := hbw1.out.size
      clear a0 a1 b0 b1 hb1 hbw hcal
      cases ho : okM v c
      · rw [chk_no ho]
        go_wp2_with (fail)
        go_ret
        refine ⟨ret_same ?_, hbw1.out⟩
        unfold wiM; rw [ho]; rfl
      · rw [chk_ok ho]
        go_wp2_with (fail)
        refine (hcal2 _).mono ?_
        rintro e w2 ⟨rfl, hb2⟩
        have hbw2 : Hid (Below w.heap.size w w2) := hbw1.out.trans (hb2.mono hz1)
        clear B0 B1 hb2 hbw1
        cases ho2 : okM x d
        · rw [chk_no ho2]
          go_wp2_with (fail)
          go_ret
          refine ⟨ret_same ?_, hbw2.out⟩
          unfold wiM; rw [ho, ho2]; rfl
        · rw [chk_ok ho2]
          go_wp2_with (fail)
          go_ret
          exact ⟨ret_same (has_within hv hd ho ho2 hag.out).symm, hbw2.out⟩

set_option maxHeartbeats 2000000 in
theorem rmeet_bad (v c x d : Nat) (w : World) (hv : v < 256) (hc : c < 256) (hx : x < 256) (hd : d < 256) (ho : (okM v c && okM x d) = false) :
    Calls Tryz.prog 48 #[.agg #[.int .u8 v, .int .u8 c], .agg #[.int .u8 x, .int .u8 d]] w fun e w' => e = .returned (.tuple #[.agg #[.int .u8 0, .int .u8 0], .bool false]) ∧ Below w.heap.size w w' := by
  have hcal := fun W => rcheckM v c W hv hc
  have hcal2 := fun W => rcheckM x d W hx hd
  go_enter Tryz.func48, Tryz.ntmps48
  go_wp2_with (fail)
  refine (hcal _).mono ?_
  rintro e w1 ⟨rfl, hb1⟩
  have B0 : w1.cell? ⟨w.heap.size + 1, 0, none⟩ = some (.int .u8 x) := cell_on1 hb1 (by simp [go_sem])
  have B1 : w1.cell? ⟨w.heap.size + 1, 1, none⟩ = some (.int .u8 d) := cell_on1 hb1 (by simp [go_sem])
  have c0 : w1.cell? ⟨w.heap.size + 1 + 1, 0, none⟩ = some (.int .u8 0) := cell_on1 hb1 (by simp [go_sem])
  have c1 : w1.cell? ⟨w.heap.size + 1 + 1, 1, none⟩ = some (.int .u8 0) := cell_on1 hb1 (by simp [go_sem])
  have f0 : w1.frozen? ⟨w.heap.size + 1 + 1, 0, none⟩ = false := by rw [hb1.frozen (by simp)]; simp [go_sem]
  have f1 : w1.frozen? ⟨w.heap.size + 1 + 1, 1, none⟩ = false := by rw [hb1.frozen (by simp)]; simp [go_sem]
  have hbw : Hid (Below w.heap.size w w1) := by show Below _ _ _; (repeat (first | assumption | exact Below.refl _ _ | refine Below.drew ?_ | refine bel_drewN ?_ _ | refine Below.setCell ?_ (by first | omega | (simp; done) | (simp; omega)) _ | refine Below.alloc ?_ (by first | omega | (simp; done) | (simp; omega)) _ | refine bel_of ?_ (by assumption)))
  have hz := hb1.size
  simp at hz
  clear hb1
  cases h1 : okM v c
  · rw [chk_no h1]
    go_wp2
    exact bodyPost_ret (v := .tuple #[.agg #[.int .u8 0, .int .u8 0], .bool false]) (by simp [results, Tryz.results48, go_sem, *]) rfl ⟨rfl, by have := hbw.out; (repeat (first | assumption | exact Below.refl _ _ | refine Below.drew ?_ | refine bel_drewN ?_ _ | refine Below.setCell ?_ (by first | omega | (simp; done) | (simp; omega)) _ | refine Below.alloc ?_ (by first | omega | (simp; done) | (simp; omega)) _ | refine bel_of ?_ (by assumption)))⟩
  · rw [chk_ok h1]
    rw [h1, Bool.true_and] at ho
    rw [chk_no ho] at hcal2
    go_wp2_with (fail)
    refine (hcal2 _).mono ?_
    rintro e w2 ⟨rfl, hb2⟩
    have C0 : w2.cell? ⟨w.heap.size + 1 + 1, 0, none⟩ = some (.int .u8 0) := cell_on1 hb2 c0
    have C1 : w2.cell? ⟨w.heap.size + 1 + 1, 1, none⟩ = some (.int .u8 0) := cell_on1 hb2 c1
    have F0 : w2.frozen? ⟨w.heap.size + 1 + 1, 0, none⟩ = false := by rw [hb2.frozen (by show w.heap.size + 1 + 1 < _; omega)]; exact f0
    have F1 : w2.frozen? ⟨w.heap.size + 1 + 1, 1, none⟩ = false := by rw [hb2.frozen (by show w.heap.size + 1 + 1 < _; omega)]; exact f1
    have hbw2 : Hid (Below w.heap.size w w2) := hbw.out.trans (hb2.mono (by omega))
    clear hb2 c0 c1 f0 f1 B0 B1 hbw
    go_wp2
    exact bodyPost_ret (v := .tuple #[.agg #[.int .u8 0, .int .u8 0], .bool false]) (by simp [results, Tryz.results48, go_sem, *]) rfl ⟨rfl, by have := hbw2.out; (repeat (first | assumption | exact Below.refl _ _ | refine Below.drew ?_ | refine bel_drewN ?_ _ | refine Below.setCell ?_ (by first | omega | (simp; done) | (simp; omega)) _ | refine Below.alloc ?_ (by first | omega | (simp; done) | (simp; omega)) _ | refine bel_of ?_ (by assumption)))⟩
end Go.Proofs.YtebljklpkoheaaaGreat
