/-
  The document's answer: Union, Less.
-/
import Derived.Test.YthmekipdhlipbaaSpSp
namespace Go.Proofs.Ythmekipdhlipbaa
open Go.RowKit
set_option linter.unusedVariables false
set_option linter.unusedSimpArgs false

theorem memB_take {l : List (Nat × Nat)} {k : Nat} (h : k < l.length) (i : Nat) : memB (l.take (k + 1)) i = (memB (l.take k) i || hasB ((l[k]).1, (l[k]).2) i) := by
  rw [take_snoc h, memB_snoc]
set_option maxHeartbeats 1000000 in
theorem runionS (l : List (Nat × Nat)) (v : Value) (w : World) (h : Src w v l) (hl : l.length ≤ 4294967296) (hbd : Bd l) :
    Calls Try.prog 32 #[v] w fun e w' => ∃ v' : Value, e = .returned v' ∧ Row w' w.heap.size v' (canonOf (memB l)) ∧ Below w.heap.size w w' := by
  obtain ⟨hsz, hall⟩ := zero_ports
  have hnew : Hid (PortsAt (w.alloc (.cells Try.zeroCells69 69)) w.heap.size (fun _ => false)) := PortsAt.new w hsz hall
  obtain ⟨ad, cap, rfl, hat⟩ := h.at
  have HBD : Hid (Bd l) := hbd
  clear h hbd hsz hall
  go_enter Try.func32, Try.ntmps32
  go_wp2_with (fail)
  go_loopw [4] (fun iv wr => ∃ k : Nat, k ≤ l.length ∧ iv = .int .i64 k ∧ Hid (PortsAt wr w.heap.size (memB (l.take k))) ∧ Hid (Below w.heap.size w wr)) (fun iv _ => l.length - (intOf iv).toNat)
  case atStart => exact ⟨0, Nat.zero_le _, rfl, hnew.out, (Below.refl _ _).alloc (Nat.le_refl _) _⟩
  case round =>
    obtain ⟨k, hk, rfl, hP, hB⟩ := hrel
    have hzW := hB.out.size
    by_cases hlt : k < l.length
    · obtain ⟨g, off, rfl, hcell⟩ := hat (by omega)
      obtain ⟨s, hs⟩ : ∃ s, s = l[k] := ⟨_, rfl⟩
      obtain ⟨x0, x1⟩ := hcell k hlt
      rw [← hs] at x0 x1
      have y0 := cell_on hB.out x0
      have y1 := cell_on hB.out x1
      have hsb := HBD.out s (by rw [hs]; exact List.getElem_mem _)
      have E : Hid (∀ i, memB (l.take (k + 1)) i = (memB (l.take k) i || hasB (s.1, s.2) i)) := fun i => by rw [hs]; exact memB_take hlt i
      clear hat hcell x0 x1 hs
      go_wp2_with (fail)
      refine (addS s.1 s.2 hsb.1 hsb.2 w.heap.size _ _ hP.out).mono ?_
      rintro e w3 ⟨rfl, hP3, hb3⟩
      have HP3 : Hid (PortsAt w3 w.heap.size (memB (l.take (k + 1)))) := hP3.congr fun i _ => (E.out i).symm
      have HB3 : Hid (Below w.heap.size w w3) := But.below hB.out hb3 hzW (Nat.le_refl _)
      clear hP3 hb3 y0 y1 E
      go_wp2
      go_roundw
      case rel => exact ⟨k + 1, by omega, by go_num, HP3, HB3⟩
      case measure => simp [intOf]; omega
    · obtain rfl : k = l.length := by omega
      have hP' := hP.out
      rw [List.take_length] at hP'
      go_wp2_with (fail)
      refine (spansS w.heap.size _ _ hP').mono ?_
      rintro e w4 ⟨v4, rfl, hr4, hb4⟩
      go_wp2
      go_ret
      exact ⟨_, rfl, hr4.base hzW, hB.out.trans (hb4.mono hzW)⟩
set_option maxHeartbeats 1000000 in
theorem rlessS (a b c d : Nat) (w : World) (ha : a < 65536) (hb : b < 65536) (hc : c < 65536) (hd : d < 65536) :
    Calls Try.prog 29 #[.agg #[.int .u16 a, .int .u16 b], .agg #[.int .u16 c, .int .u16 d]] w fun e w' => ∃ v' : Value, e = .returned v' ∧ Row w' w.heap.size v' (canonOf (lessB (a, b) (c, d))) ∧ Below w.heap.size w w' := by
  obtain ⟨hsz, hall⟩ := zero_ports
  have hnew : Hid (∀ W : World, PortsAt (W.alloc (.cells Try.zeroCells69 69)) W.heap.size (fun _ => false)) := fun W => PortsAt.new W hsz hall
  clear hsz hall
  go_enter Try.func29, Try.ntmps29
  go_wp2_with (fail)
  obtain ⟨g, hg⟩ : ∃ g, g = w.heap.size + 1 + 1 := ⟨_, rfl⟩
  have hN : PortsAt (((w.alloc (.cells #[.int .u16 a, .int .u16 b] 41)).alloc (.cells #[.int .u16 c, .int .u16 d] 41)).alloc (.cells Try.zeroCells69 69)) g (fun _ => false) := by
    have := hnew.out ((w.alloc (.cells #[.int .u16 a, .int .u16 b] 41)).alloc (.cells #[.int .u16 c, .int .u16 d] 41))
    simp only [World.size_alloc] at this
    rw [hg]; exact this
  have hbl : Below w.heap.size w (((w.alloc (.cells #[.int .u16 a, .int .u16 b] 41)).alloc (.cells #[.int .u16 c, .int .u16 d] 41)).alloc (.cells Try.zeroCells69 69)) := by (repeat (first | assumption | exact Below.refl _ _ | refine Below.drew ?_ | refine bel_drewN ?_ _ | refine Below.setCell ?_ (by first | omega | (simp; done) | (simp; omega)) _ | refine Below.alloc ?_ (by first | omega | (simp; done) | (simp; omega)) _ | refine bel_of ?_ (by assumption)))
  rw [← hg]
  refine (addS a b ha hb g _ _ hN).mono ?_
  rintro e w1 ⟨rfl, hP1, hb1⟩
  have x0 : w1.cell? ⟨w.heap.size + 1, 0, none⟩ = some (.int .u16 c) := World.grownBy.cell hb1 (by simp [go_sem]) (by simp; omega)
  have x1 : w1.cell? ⟨w.heap.size + 1, 1, none⟩ = some (.int .u16 d) := World.grownBy.cell hb1 (by simp [go_sem]) (by simp; omega)
  have hz1 := World.grownBy.size hb1
  simp at hz1
  have HP1 : Hid (PortsAt w1 g (hasB (a, b))) := hP1.congr fun i _ => by simp
  have HB1 : Hid (Below w.heap.size w w1) := But.below hbl hb1 (by simp; omega) (by omega)
  have hc' : (c : Int) < 65536 := by omega
  have hd' : (d : Int) < 65536 := by omega
  have hne : ¬ w.heap.size + 1 = g := by omega
  have hne' : ¬ g = w.heap.size + 1 := by omega
  have hgw : w.heap.size ≤ g := by omega
  clear hnew hN hbl hP1 hb1 hg
  go_wp2_with (fail)
  go_loopw [6] (fun iv wr => ∃ k : Nat, c ≤ k ∧ (k ≤ d + 1 ∨ k = c) ∧ iv = .int .i64 k ∧ wr.cell? ⟨w.heap.size + 1, 0, none⟩ = some (.int .u16 c) ∧ wr.cell? ⟨w.heap.size + 1, 1, none⟩ = some (.int .u16 d) ∧ Hid (PortsAt wr g (fun j => hasB (a, b) j && !(decide (c ≤ j) && decide (j < k)))) ∧ Hid (Below w.heap.size w wr)) (fun iv _ => d + 1 - (intOf iv).toNat)
  case atStart =>
    refine ⟨c, Nat.le_refl _, .inr rfl, rfl, x0, x1, HP1.out.congr fun j hj => ?_, HB1.out⟩
    have : (decide (c ≤ j) && decide (j < c)) = false := by simp
    rw [this]; simp
  case round =>
    obtain ⟨k, hk1, hk2, rfl, z0, z1, hP, hB⟩ := hrel
    have hzW := hB.out.size
    by_cases hlt : k ≤ d
    · have hlt' : (k : Int) ≤ (d : Int) := by omega
      have hk0 : (0 : Int) ≤ (k : Int) := by omega
      obtain ⟨y0, y1⟩ := hP.out.cell (i := k) (by omega)
      clear x0 x1
      go_wp2
      go_roundw
      case rel =>
        refine ⟨k + 1, by omega, by omega, by go_num, by simp [go_sem, hne, z0], by simp [go_sem, hne, z1], ?_, hB.out.setCell hgw _⟩
        refine (hP.out.set (by omega) false).congr fun j hj => ?_
        by_cases e : j = k
        · subst e; simp [hk1]
        · rw [if_neg e]
          congr 3
          rw [decide_eq_decide]; omega
      case measure => simp [intOf]; omega
    · have hlt' : ¬ (k : Int) ≤ (d : Int) := by omega
      have hP' : PortsAt wr g (lessB (a, b) (c, d)) := hP.out.congr fun j hj => by
        unfold lessB
        congr 2
        show (decide (c ≤ j) && decide (j < k)) = (decide (c ≤ j) && decide (j ≤ d))
        by_cases e : c ≤ j
        · rw [decide_eq_true e, Bool.true_and, Bool.true_and, decide_eq_decide]; omega
        · rw [decide_eq_false e, Bool.false_and, Bool.false_and]
      go_wp2_with (fail)
      refine (spansS g _ _ hP').mono ?_
      rintro e w4 ⟨v4, rfl, hr4, hb4⟩
      go_wp2
      go_ret
      exact ⟨_, rfl, hr4.base hzW, hB.out.trans (hb4.mono hzW)⟩
end Go.Proofs.Ythmekipdhlipbaa
