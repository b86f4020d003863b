/-
  nest's shelf: put.
-/
import Derived.Test.YtcjpjofoddpfhaaGreatNsI
import Derived.RegionTactic
import Derived.BigRegion
namespace Go.Proofs.YtcjpjofoddpfhaaGreat
open Go.RowKit
set_option linter.unusedVariables false
set_option linter.unusedSimpArgs false

theorem grown_drew {w w1 : World} {g : Option Nat} (h : w.grownBy w1 g) : w.grownBy w1.drew g := ⟨h.os, h.tape, h.output, h.size, h.block⟩
theorem w64n {m : Nat} (h : m < 8589934592) : wrap64 (m : Int) = (m : Int) ∧ wrap64 (2 * (m : Int)) = 2 * (m : Int) ∧ wrap64 (2 * (m : Int) + 1) = 2 * (m : Int) + 1 := by
  unfold wrap64
  refine ⟨?_, ?_, ?_⟩ <;> omega
theorem i64n {m : Nat} (h : m < 8589934592) : IntKind.i64.wrap (m : Int) = (m : Int) ∧ IntKind.i64.wrap (2 * (m : Int)) = 2 * (m : Int) ∧ IntKind.i64.wrap (2 * (m : Int) + 1) = 2 * (m : Int) + 1 := by
  refine ⟨?_, ?_, ?_⟩ <;> (simp [IntKind.wrap, IntKind.bits, IntKind.signed]; omega)
set_option maxHeartbeats 1000000 in
theorem putC (d : Array Int) (h g cap j : Nat) (hi : Int) (w : World) (T : Tre d h) (hk : h ≤ 4294967296) (hj : j < h) (hr : RowA w g (2 * h) cap d) :
    Calls Tryz.prog 53 #[.slice (some ⟨g, 0, none⟩) (2 * h) cap, .int .i64 (j : Int), .int .i64 hi] w fun e w' => e = .returned (.tuple #[]) ∧ ∃ d' : Array Int, RowA w' g (2 * h) cap d' ∧ Tre d' h ∧ (∀ x, h ≤ x → x < 2 * h → d'[x]! = if x = h + j then hi else d[x]!) ∧ w.grownBy w' (some g) := by
  have hc0 := (hr.cell (k := h + j) (by omega)).1
  have hf0 := (hr.cell (k := h + j) (by omega)).2
  obtain ⟨r1, r2⟩ := hr.set (h + j) hi
  have hs : h + j < d.size := by rw [T.1]; omega
  have U0 : Hid (Upw (d.setIfInBounds (h + j) hi) h (h + j)) := upw_zero T (by omega) (by omega) hi
  have R1 : Hid (RowA (w.setCell ⟨g, h + j, none⟩ (.int .i64 hi)) g (2 * h) cap (d.setIfInBounds (h + j) hi)) := r1
  have R2 : Hid (w.grownBy (w.setCell ⟨g, h + j, none⟩ (.int .i64 hi)) (some g)) := r2
  have L0 : Hid (∀ x, h ≤ x → x < 2 * h → (d.setIfInBounds (h + j) hi)[x]! = if x = h + j then hi else d[x]!) := fun x _ _ => set_at hi x hs
  obtain ⟨n2, hn2⟩ : ∃ n2, n2 = 2 * h := ⟨_, rfl⟩
  rw [← hn2] at R1 L0 ⊢
  have hq2 : Int.tdiv (n2 : Int) 2 = (h : Int) := by rw [Int.tdiv_eq_ediv_of_nonneg (by omega)]; omega
  have Hn2 : Hid (n2 = 2 * h) := hn2
  have hlt0 : (h : Int) + (j : Int) < (n2 : Int) := by omega
  have hge0 : (0 : Int) ≤ (h : Int) + (j : Int) := by omega
  have hnn : ((h : Int) + (j : Int)).toNat = h + j := by omega
  clear r1 r2 hr hn2 T
  generalize hd0 : d.setIfInBounds (h + j) hi = d0 at *
  clear hd0 hs
  go_enter Tryz.func53, Tryz.ntmps53
  go_wp2
  go_loopw [6] (fun vi wr => ∃ (i : Nat) (d1 : Array Int), vi = .int .i64 (i : Int) ∧ Hid (Upw d1 h i) ∧ Hid (RowA wr g n2 cap d1) ∧ Hid (w.grownBy wr (some g)) ∧ Hid (∀ x, h ≤ x → x < n2 → d1[x]! = if x = h + j then hi else d[x]!)) (fun vi _ => (intOf vi).toNat)
  case atStart => exact ⟨h + j, d0, by go_num, U0.out, R1.out, R2.out, L0.out⟩
  case round =>
    obtain ⟨i, d1, rfl, HU, HR, HG, HL⟩ := hrel
    clear U0 R1 R2 L0 hc0 hf0 hq2 hlt0 hge0 hnn
    have hu1 := HU.out.2.1
    have hu2 := HU.out.2.2.1
    by_cases hgt : 1 < i
    · have hgti : (1 : Int) < (i : Int) := by omega
      have hmb0 : i / 2 < 8589934592 := by omega
      have hdv : Int.tdiv (i : Int) 2 = ((i / 2 : Nat) : Int) := by rw [Int.tdiv_eq_ediv_of_nonneg (by omega)]; omega
      have hup := upw_step HU.out hgt
      obtain ⟨m, hm⟩ : ∃ m, m = i / 2 := ⟨_, rfl⟩
      rw [← hm] at hdv hup hmb0
      have n2h := Hn2.out
      obtain ⟨c1, f1⟩ := HR.out.cell (k := 2 * m) (by omega)
      obtain ⟨c2, f2⟩ := HR.out.cell (k := 2 * m + 1) (by omega)
      obtain ⟨c3, f3⟩ := HR.out.cell (k := m) (by omega)
      have HUP : Hid _ := hup
      have b1 : (2 : Int) * (m : Int) < (n2 : Int) := by omega
      have b2 : (2 : Int) * (m : Int) + 1 < (n2 : Int) := by omega
      have b3 : (m : Int) < (n2 : Int) := by omega
      have b4 : (0 : Int) ≤ (2 : Int) * (m : Int) := by omega
      have b5 : (0 : Int) ≤ (2 : Int) * (m : Int) + 1 := by omega
      have t1 : ((2 : Int) * (m : Int)).toNat = 2 * m := by omega
      have t2 : ((2 : Int) * (m : Int) + 1).toNat = 2 * m + 1 := by omega
      have k0 : ¬ m = 2 * m := by omega
      have k1 : ¬ 2 * m = m := by omega
      have k2 : ¬ m = 2 * m + 1 := by omega
      have k3 : ¬ 2 * m + 1 = m := by omega
      obtain ⟨w0, w1, w2⟩ := w64n (m := m) hmb0
      obtain ⟨v0, v1, v2⟩ := i64n (m := m) hmb0
      obtain ⟨r1, r2⟩ := HR.out.set m (min d1[2 * m]! d1[2 * m + 1]!)
      have R1 : Hid (RowA (wr.setCell ⟨g, m, none⟩ (.int .i64 (min d1[2 * m]! d1[2 * m + 1]!))) g n2 cap (d1.setIfInBounds m (min d1[2 * m]! d1[2 * m + 1]!))) := r1
      have R2 : Hid (w.grownBy (wr.setCell ⟨g, m, none⟩ (.int .i64 (min d1[2 * m]! d1[2 * m + 1]!))) (some g)) := World.grownBy.trans HG.out r2
      have L1 : Hid (∀ x, h ≤ x → x < n2 → (d1.setIfInBounds m (min d1[2 * m]! d1[2 * m + 1]!))[x]! = if x = h + j then hi else d[x]!) := fun x x1 x2 => by
        rw [set_at _ _ (by rw [HU.out.1]; omega), if_neg (by omega)]; exact HL.out x x1 x2
      have E1 : Hid ((wr.setCell ⟨g, m, none⟩ (.int .i64 (min d1[2 * m]! d1[2 * m + 1]!))).cell? ⟨g, 2 * m, none⟩ = some (.int .i64 d1[2 * m]!)) := by
        have := (r1.cell (k := 2 * m) (by omega)).1
        rwa [set_at _ _ (by rw [HU.out.1]; omega), if_neg k1] at this
      have E2 : Hid ((wr.setCell ⟨g, m, none⟩ (.int .i64 (min d1[2 * m]! d1[2 * m + 1]!))).cell? ⟨g, 2 * m + 1, none⟩ = some (.int .i64 d1[2 * m + 1]!)) := by
        have := (r1.cell (k := 2 * m + 1) (by omega)).1
        rwa [set_at _ _ (by rw [HU.out.1]; omega), if_neg k3] at this
      clear r1 r2 hup n2h
      have Hm : Hid _ := hm
      clear hm
      generalize d1[m]! = y3 at c3
      generalize d1[2 * m]! = y1 at *
      generalize d1[2 * m + 1]! = y2 at *
      go_wp2
      go_region_held3 (fun w' => w'.cell? ⟨g, 2 * m, none⟩ = some (.int .i64 y1) ∧ w'.cell? ⟨g, 2 * m + 1, none⟩ = some (.int .i64 y2)) (first | exact ⟨E1.out, E2.out⟩ | go_keep) (fail)
      all_goals go_wp2
      all_goals go_roundw
      case rel => exact ⟨m, _, rfl, HUP.out, R1.out, grown_drew R2.out, L1.out⟩
      case measure => have := Hm.out; simp [intOf]; omega
    · obtain rfl : i = 1 := by omega
      go_wp2
      go_end0
      exact ⟨rfl, d1, HR.out, upw_end HU.out, HL.out, HG.out⟩
end Go.Proofs.YtcjpjofoddpfhaaGreat
