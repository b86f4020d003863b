/-
  mask.Less: what it hands back.
-/
import Derived.Test.YthggiblkehcfaaaMkU
import Derived.Test.YthggiblkehcfaaaMkPlC
import Derived.Deep.AppendLies
namespace Go.Proofs.Ythggiblkehcfaaa
open Go.RowKit
set_option linter.unusedVariables false
set_option linter.unusedSimpArgs false

theorem Row.put {w : World} {b : Nat} {v : Value} {l : List (Nat × Nat)} (h : Row w b v l) {g i : Nat} (hg : g < b) (u : Value) : Row (w.setCell ⟨g, i, none⟩ u) b v l := by
  refine ⟨h.1, ?_⟩
  rcases h.2 with h2 | ⟨g', cap, cur, hv, hb, hh, r⟩
  · exact .inl h2
  · exact .inr ⟨g', cap, cur, hv, hb, by rw [Below.heap_setCell _ _ _ _ (by intro e; simp at e; omega)]; exact hh, r⟩
set_option maxHeartbeats 2000000 in
theorem lessC (v c x d : Nat) (w : World) (hv : v < 256) (hc : c < 256) (hx : x < 256) (hd : d < 256) :
    Calls Try.prog 87 #[.agg #[.int .u8 v, .int .u8 c], .agg #[.int .u8 x, .int .u8 d]] w fun e w' => ∃ v' : Value, e = .returned v' ∧ Row w' w.heap.size v' (lessM v c x d) ∧ Below w.heap.size w w' := by
  have hcal := fun W => mayBe_any v c x d W hv hc hx hd
  have hcal2 := fun W => apartM v c x d W hv hc hx hd
  go_enter Try.func87, Try.ntmps87
  go_wp2_with (fail)
  refine (hcal _).mono ?_
  rintro e w1 ⟨rfl, hb1⟩
  have a0 : w1.cell? ⟨w.heap.size, 0, none⟩ = some (.int .u8 v) := cell_on1 hb1 (by simp [go_sem])
  have a1 : w1.cell? ⟨w.heap.size, 1, none⟩ = some (.int .u8 c) := cell_on1 hb1 (by simp [go_sem])
  have b0 : w1.cell? ⟨w.heap.size + 1, 0, none⟩ = some (.int .u8 x) := cell_on1 hb1 (by simp [go_sem])
  have b1 : w1.cell? ⟨w.heap.size + 1, 1, none⟩ = some (.int .u8 d) := cell_on1 hb1 (by simp [go_sem])
  have hbw : Hid (Below w.heap.size w w1) := by show Below _ _ _; (repeat (first | assumption | exact Below.refl _ _ | refine Below.drew ?_ | refine bel_drewN ?_ _ | refine Below.setCell ?_ (by first | omega | (simp; done) | (simp; omega)) _ | refine Below.alloc ?_ (by first | omega | (simp; done) | (simp; omega)) _ | refine bel_of ?_ (by assumption)))
  have hz := hb1.size
  simp at hz
  clear hb1 hcal
  cases ho : (okM v c && okM x d)
  · have HE : Hid (lessM v c x d = []) := lessM_bad ho
    clear ho hcal2
    go_wp2_with (fail)
    go_ret
    exact ⟨_, rfl, by rw [HE.out]; exact Row.nil _ _, hbw.out⟩
  · rw [Bool.and_eq_true] at ho
    go_wp2_with (fail)
    refine (hcal2 _).mono ?_
    rintro e w2 ⟨rfl, hb2⟩
    have A0 := cell_on1 hb2 a0
    have A1 := cell_on1 hb2 a1
    have B0 := cell_on1 hb2 b0
    have B1 := cell_on1 hb2 b1
    have hbw2 : Hid (Below w.heap.size w w2) := hbw.out.trans (hb2.mono (by omega))
    have hz2 := hb2.size
    have hO : w.heap.size + 1 < w2.heap.size := by omega
    clear hb2 hcal2 a0 a1 b0 b1 hbw hz hz2
    cases ha : apM v c x d
    · have HO : Hid (okM v c = true ∧ okM x d = true ∧ apM v c x d = false) := ⟨ho.1, ho.2, ha⟩
      clear ho ha
      go_wp2_with (fail)
      have n0 : ¬ w.heap.size = w2.heap.size := by omega
      have n1 : ¬ w.heap.size + 1 = w2.heap.size := by omega
      go_loopw [5, 7] (fun pv bv wr => ∃ k : Nat, k ≤ 8 ∧ bv = .int .u8 ((bz k : Nat) : Int) ∧ Hid (Row wr (w2.heap.size + 1) pv (lessN v c x d k)) ∧ Hid (Below w2.heap.size w2 wr) ∧ wr.cell? ⟨w2.heap.size, 0, none⟩ = some (.int .u8 ((rv v x k : Nat) : Int)) ∧ wr.cell? ⟨w2.heap.size, 1, none⟩ = some (.int .u8 ((rv c d k : Nat) : Int)) ∧ wr.frozen? ⟨w2.heap.size, 0, none⟩ = false ∧ wr.frozen? ⟨w2.heap.size, 1, none⟩ = false) (fun _ bv _ => (intOf bv).toNat)
      case atStart => exact ⟨0, Nat.zero_le _, rfl, Row.nil _ _, by show Below _ _ _; (repeat (first | assumption | exact Below.refl _ _ | refine Below.drew ?_ | refine bel_drewN ?_ _ | refine Below.setCell ?_ (by first | omega | (simp; done) | (simp; omega)) _ | refine Below.alloc ?_ (by first | omega | (simp; done) | (simp; omega)) _ | refine bel_of ?_ (by assumption))), by rw [rv_zero hx]; simp [go_sem], by rw [rv_zero hd]; simp [go_sem], by simp [go_sem], by simp [go_sem]⟩
      case round =>
        obtain ⟨k, hk, rfl, hrow, hbw, o0, o1, g0, g1⟩ := hrel
        have a0 := cell_on1 hbw.out A0
        have a1 := cell_on1 hbw.out A1
        have b0 := cell_on1 hbw.out B0
        have b1 := cell_on1 hbw.out B1
        have hsz : w2.heap.size < wr.heap.size := World.block_lt_of_cell? _ _ o0
        clear A0 A1 B0 B1
        by_cases hlt : k < 8
        · have hp : 0 < bz k := bz_pos k hlt
          have hb := bz_lt k
          have hh : Hid (((bz k : Nat) : Int) / 2 = ((bz (k + 1) : Nat) : Int)) := by have := bz_half k; show _ = _; omega
          have hm : bz (k + 1) < bz k := by have := bz_half k; omega
          have hb0 : ¬ ((bz k : Nat) : Int) = 0 := by omega
          have hE0 : bits .and .u8 ((bz k : Nat) : Int) (d : Int) = ((bz k &&& d : Nat) : Int) := u8_and_nat _ _ hb hd
          have hE1 : bits .andNot .u8 ((bz k &&& d : Nat) : Int) (c : Int) = (((bz k &&& d) &&& (255 - c) : Nat) : Int) := u8_andNot_nat _ _ (and_lt hb) hc
          cases hk1 : cut c d k
          · rw [(cut_bz hlt hc).2 hk1] at hE1
            have HN : Hid (cut c d k = false) := hk1
            clear hk1
            go_wp2_with (fail)
            go_roundw
            case rel => exact ⟨k + 1, by omega, by rw [← hh.out], by show Row _ _ _ _; rw [lessN_miss HN.out]; exact hrow.out, hbw.out, by rw [rv_stay' hlt HO.out.1 HO.out.2.1 HO.out.2.2 HN.out]; exact o0, by rw [rc_stay hlt HN.out]; exact o1, g0, g1⟩
            case measure => rw [hh.out]; simp [intOf]; omega
          · have hE2 : ¬ (((bz k &&& d) &&& (255 - c) : Nat) : Int) = 0 := by
              intro e
              have : (bz k &&& d) &&& (255 - c) = 0 := by omega
              rw [cut_bz hlt hc, hk1] at this; cases this
            have HN : Hid (cut c d k = true) := hk1
            have hF1 : bits .or .u8 ((rv c d k : Nat) : Int) ((bz k : Nat) : Int) = ((rv c d (k + 1) : Nat) : Int) := by rw [u8_or_nat _ _ (rv_lt hc hd k) hb, or_bz hlt hk1]
            have hF2 : bits .andNot .u8 ((bz k : Nat) : Int) (x : Int) = ((bz k &&& (255 - x) : Nat) : Int) := u8_andNot_nat _ _ hb hx
            have hF3 : bits .or .u8 ((rv v x k : Nat) : Int) ((bz k &&& (255 - x) : Nat) : Int) = (((piece v c x d k).1 : Nat) : Int) := by rw [u8_or_nat _ _ (rv_lt hv hx k) (and_lt hb), piece_bz hlt hx]
            have hF4 : bits .and .u8 ((bz k : Nat) : Int) (x : Int) = ((bz k &&& x : Nat) : Int) := u8_and_nat _ _ hb hx
            have hF5 : bits .or .u8 ((rv v x k : Nat) : Int) ((bz k &&& x : Nat) : Int) = ((rv v x (k + 1) : Nat) : Int) := by rw [u8_or_nat _ _ (rv_lt hv hx k) (and_lt hb), orv_bz hlt]
            generalize hqd : bz k &&& d = qd at hE0 hE1 hE2
            generalize hqx : bz k &&& (255 - x) = qx at hF2 hF3
            generalize hqy : bz k &&& x = qy at hF4 hF5
            generalize hqc : qd &&& (255 - c) = qc at hE1 hE2
            clear hk1 hqd hqx hqy hqc
            have HNE : Hid (∀ g, g ≤ w2.heap.size → some g ≠ u5.ownBlock) := fun g hg e => by have := (hrow.out.lt _ e.symm).1; omega
            go_wp2_with (at_builtin; refine wpList_append_rows rfl (.tmp 35) (.tmp 46) rfl (w2.heap.size + 1) _ (lessN v c x d k) rfl ((hrow.out.put (by omega) _).alloc _) (w2.heap.size + 1) _ [piece v c x d k] rfl (Row.one2 (wr.setCell ⟨w2.heap.size, 1, none⟩ (.int .u8 ((rv c d (k + 1) : Nat) : Int))) (w2.heap.size + 1) _ _ (by simp) rfl rfl (by simp; omega)) (by simp; omega) (by have := lessN_le v c x d k; simp; omega) ?_; intro v5 w5 hrow5 hgr5; have e0 : w5.cell? ⟨w2.heap.size, 0, none⟩ = some (.int .u8 ((rv v x k : Nat) : Int)) := hgr5.cell (cell_alloc (by simp [go_sem, *])) (HNE.out _ (Nat.le_refl _)); have e1 : w5.cell? ⟨w2.heap.size, 1, none⟩ = some (.int .u8 ((rv c d (k + 1) : Nat) : Int)) := hgr5.cell (cell_alloc (by simp [go_sem, *])) (HNE.out _ (Nat.le_refl _)); have e2 : w5.cell? ⟨w.heap.size + 1, 0, none⟩ = some (.int .u8 x) := hgr5.cell (cell_alloc (by simp [go_sem, *])) (HNE.out _ (by show w.heap.size + 1 ≤ _; omega)); have e3 : w5.frozen? ⟨w2.heap.size, 0, none⟩ = false := (by rw [hgr5.frozen_far ⟨w2.heap.size, 0, none⟩ (by simp; omega) (HNE.out _ (Nat.le_refl _))]; simp [go_sem, *]); have e4 : w5.frozen? ⟨w2.heap.size, 1, none⟩ = false := (by rw [hgr5.frozen_far ⟨w2.heap.size, 1, none⟩ (by simp; omega) (HNE.out _ (Nat.le_refl _))]; simp [go_sem, *]); have HR5 : Hid (Row w5 (w2.heap.size + 1) v5 (lessN v c x d k ++ [piece v c x d k])) := hrow5; have HB5 : Hid (Below w2.heap.size w2 w5) := ((hbw.out.setCell (Nat.le_refl _) _).alloc (by simp; omega) _).grown hgr5 (by simp; omega) (fun j hj => by have := (hrow.out.lt j hj).1; omega); clear hrow5 hgr5 o0 o1 g0 g1 a0 a1 b0 b1)
            go_roundw
            case rel => exact ⟨k + 1, by omega, by rw [← hh.out], by show Row _ _ _ _; rw [lessN_hit HN.out]; exact HR5.out.put (by omega) _, HB5.out.setCell (Nat.le_refl _) _, by simp [go_sem, *], by simp [go_sem, *], by simp [go_sem, *], by simp [go_sem, *]⟩
            case measure => rw [hh.out]; simp [intOf]; omega
        · obtain rfl : k = 8 := by omega
          go_wp2_with (fail)
          go_ret
          refine ⟨_, rfl, ?_, hbw2.out.trans (hbw.out.mono hbw2.out.size)⟩
          rw [lessM_in HO.out.1 HO.out.2.1 HO.out.2.2]
          exact hrow.out.base (by omega)
    · have HE : Hid (lessM v c x d = [(v, c)]) := lessM_ap ho.1 ho.2 ha
      clear ho ha
      go_wp2_with (fail)
      go_ret
      exact ⟨_, rfl, by rw [HE.out]; exact Row.one w2 _ _ _ (by omega), by have := hbw2.out; (repeat (first | assumption | exact Below.refl _ _ | refine Below.drew ?_ | refine bel_drewN ?_ _ | refine Below.setCell ?_ (by first | omega | (simp; done) | (simp; omega)) _ | refine Below.alloc ?_ (by first | omega | (simp; done) | (simp; omega)) _ | refine bel_of ?_ (by assumption)))⟩
end Go.Proofs.Ythggiblkehcfaaa
