/-
  The document's answer: Gaps.
-/
import Derived.Test.YthmekipdhlipbabSpZb
namespace Go.Proofs.Ythmekipdhlipbab
open Go.RowKit
set_option linter.unusedVariables false
set_option linter.unusedSimpArgs false

theorem memB_take {l : List (Nat × Nat)} {k : Nat} (h : k < l.length) (i : Nat) : memB (l.take (k + 1)) i = (memB (l.take k) i || hasB ((l[k]).1, (l[k]).2) i) := by
  rw [take_snoc h, memB_snoc]
set_option maxHeartbeats 1000000 in
theorem rgapsS (l : List (Nat × Nat)) (v : Value) (w : World) (h : Src w v l) (hl : l.length ≤ 4294967296) (hbd : Bd l) :
    Calls Try.prog 7 #[v] w fun e w' => ∃ v' : Value, e = .returned v' ∧ Row w' w.heap.size v' (canonOf fun i => !memB l i) ∧ Below w.heap.size w w' := by
  obtain ⟨cs, hz, hsz, hall⟩ := zero_ports
  have hbuild := run_zero_ports hz
  have hne := ports_ne hsz
  have hnew : Hid (PortsAt (w.alloc (.cells cs 43)) w.heap.size (fun _ => false)) := PortsAt.new w hsz hall
  obtain ⟨ad, cap, rfl, hat⟩ := h.at
  have HBD : Hid (Bd l) := hbd
  clear h hbd hall hz
  go_enter Try.func7, Try.ntmps7
  go_wp2_with (fail)
  go_loopw [4] (fun iv wr => ∃ k : Nat, k ≤ l.length ∧ iv = .int .i64 k ∧ Hid (PortsAt wr w.heap.size (memB (l.take k))) ∧ Hid (Below w.heap.size w wr)) (fun iv _ => l.length - (intOf iv).toNat)
  case atStart => exact ⟨0, Nat.zero_le _, rfl, hnew.out, (Below.refl _ _).alloc (Nat.le_refl _) _⟩
  case round =>
    obtain ⟨k, hk, rfl, hP, hB⟩ := hrel
    have hzW := hB.out.size
    by_cases hlt : k < l.length
    · obtain ⟨g, off, rfl, hcell⟩ := hat (by omega)
      obtain ⟨s, hs⟩ : ∃ s, s = l[k] := ⟨_, rfl⟩
      obtain ⟨x0, x1⟩ := hcell k hlt
      rw [← hs] at x0 x1
      have y0 := cell_on hB.out x0
      have y1 := cell_on hB.out x1
      have hsb := HBD.out s (by rw [hs]; exact List.getElem_mem _)
      have E : Hid (∀ i, memB (l.take (k + 1)) i = (memB (l.take k) i || hasB (s.1, s.2) i)) := fun i => by rw [hs]; exact memB_take hlt i
      clear hat hcell x0 x1 hs
      go_wp2_with (fail)
      refine (addS s.1 s.2 hsb.1 hsb.2 w.heap.size _ _ hP.out).mono ?_
      rintro e w3 ⟨rfl, hP3, hb3⟩
      have HP3 : Hid (PortsAt w3 w.heap.size (memB (l.take (k + 1)))) := hP3.congr fun i _ => (E.out i).symm
      have HB3 : Hid (Below w.heap.size w w3) := But.below hB.out hb3 hzW (Nat.le_refl _)
      clear hP3 hb3 y0 y1 E
      go_wp2
      go_roundw
      case rel => exact ⟨k + 1, by omega, by go_num, HP3, HB3⟩
      case measure => simp [intOf]; omega
    · obtain rfl : k = l.length := by omega
      have hP' := hP.out
      rw [List.take_length] at hP'
      have HP' : Hid (PortsAt wr w.heap.size (memB l)) := hP'
      have HB' : Hid (Below w.heap.size w wr) := hB
      clear hP hP' hB hat
      obtain ⟨S, hS⟩ : ∃ S, S = memB l := ⟨_, rfl⟩
      rw [← hS] at HP'
      have HSq : Hid (S = memB l) := hS
      clear hS
      go_wp2_with (fail)
      go_loopw [5] (fun iv wx => ∃ k : Nat, k ≤ 65536 ∧ iv = .int .i64 k ∧ Hid (PortsAt wx w.heap.size (fun i => if i < k then !S i else S i)) ∧ Hid (Below w.heap.size w wx)) (fun iv _ => 65536 - (intOf iv).toNat)
      case atStart => exact ⟨0, by omega, rfl, HP'.out.congr fun i hi => by simp, HB'.out⟩
      case round =>
        obtain ⟨k, hk, rfl, hP, hB⟩ := hrel
        have hzX := hB.out.size
        by_cases hlt : k < 65536
        · have hlt' : (k : Int) < 65536 := by omega
          have hk0 : (0 : Int) ≤ (k : Int) := by omega
          obtain ⟨y0, y1⟩ := hP.out.cell (i := k) hlt
          rw [if_neg (Nat.lt_irrefl k)] at y0
          go_wp2
          go_region
          all_goals
            go_wp2
            go_roundw
            case rel =>
              refine ⟨k + 1, by omega, by go_num, ?_, (hB.out.setCell (Nat.le_refl _) _).drew⟩
              have hset := hP.out.set hlt (!S k)
              have hset' : PortsAt (wr.setCell ⟨w.heap.size, k, none⟩ (.bool (!S k))).drew w.heap.size (fun j => if j = k then !S k else if j < k then !S j else S j) := hset
              refine hset'.congr fun j hj => ?_
              by_cases e : j = k
              · subst e; rw [if_pos rfl, if_pos (by omega)]
              · rw [if_neg e]
                by_cases e2 : j < k
                · rw [if_pos e2, if_pos (by omega)]
                · rw [if_neg e2, if_neg (by omega)]
            case measure => simp [intOf]; omega
        · obtain rfl : k = 65536 := by omega
          have hPf : PortsAt wr w.heap.size (fun i => !S i) := hP.out.congr fun i hi => if_pos hi
          go_wp2_with (fail)
          refine (spansS w.heap.size _ _ hPf).mono ?_
          rintro e w4 ⟨v4, rfl, hr4, hb4⟩
          go_wp2
          go_ret
          rw [HSq.out] at hr4
          exact ⟨_, rfl, hr4.base hzX, hB.out.trans (hb4.mono hzX)⟩
end Go.Proofs.Ythmekipdhlipbab
