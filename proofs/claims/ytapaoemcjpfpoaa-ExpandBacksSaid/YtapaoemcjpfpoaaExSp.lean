/-
  The document's answer: a set of ports as spans.
-/
import Derived.Test.YtapaoemcjpfpoaaExPo
namespace Go.Proofs.Ytapaoemcjpfpoaa
open Go.RowKit
set_option linter.unusedVariables false
set_option linter.unusedSimpArgs false

theorem spansU_no {p : Nat → Bool} {k : Nat} (h : p k = false) : spansU p (k + 1) = spansU p k := by
  rw [spansU, if_neg (by simp [h])]
theorem spansU_new {p : Nat → Bool} {k : Nat} (h : p k = true) (h0 : ¬ (0 < k ∧ p (k - 1) = true)) : spansU p (k + 1) = spansU p k ++ [(k, k)] := by
  rw [spansU, if_pos h, if_neg h0]
theorem spansU_on {p : Nat → Bool} {k : Nat} (h : p k = true) (h0 : 0 < k ∧ p (k - 1) = true) (hk : k ≤ 65536) : ∃ f t, spansU p k = f ++ [t] ∧ spansU p (k + 1) = f ++ [(t.1, k)] := by
  obtain ⟨f, t, e, _⟩ := (spansU_is p k hk).2.2.1 (k - 1) (by omega) h0.2
  refine ⟨f, t, e, ?_⟩
  rw [spansU, if_pos h, if_pos h0]
  have e' : (spansU p k).getLast? = some t := by rw [e]; simp
  rw [e', e]
  simp
theorem spansU_len (p : Nat → Bool) (k : Nat) (hk : k ≤ 65536) : (spansU p k).length ≤ 65536 := by
  have h1 := length_le_total (spansU_is p k hk).1
  rw [total_spansU p k hk] at h1
  have := cnt_le p k
  omega
set_option maxHeartbeats 1000000 in
theorem spansS (g : Nat) (p : Nat → Bool) (w : World) (h : PortsAt w g p) :
    Calls Try.prog 42 #[.pointer (some ⟨g, 0, none⟩)] w fun e w' => ∃ v' : Value, e = .returned v' ∧ Row w' w.heap.size v' (canonOf p) ∧ Below w.heap.size w w' := by
  have hg := h.lt
  have HP : Hid (PortsAt w g p) := h
  clear h
  go_enter Try.func42, Try.ntmps42
  go_wp2_with (fail)
  go_loopw [3, 4] (fun lv iv wr => ∃ k : Nat, k ≤ 65536 ∧ iv = .int .i64 k ∧ Hid (Row wr w.heap.size lv (spansU p k)) ∧ Hid (Below w.heap.size w wr)) (fun _ iv _ => 65536 - (intOf iv).toNat)
  case atStart => exact ⟨0, by omega, rfl, Row.nil _ _, Below.refl _ _⟩
  case round =>
    obtain ⟨k, hk, rfl, hR, hB⟩ := hrel
    have hzW := hB.out.size
    by_cases hlt : k < 65536
    · have hlt' : (k : Int) < 65536 := by omega
      have hk0 : (0 : Int) ≤ (k : Int) := by omega
      have y0 : wr.cell? ⟨g, k, none⟩ = some (.bool (p k)) := (hB.out.cell (p := ⟨g, k, none⟩) hg).trans (HP.out.cell hlt).1
      have hlen := spansU_len p k (by omega)
      cases hp : p k with
      | false =>
        rw [hp] at y0
        have E : Hid (spansU p (k + 1) = spansU p k) := spansU_no hp
        clear hp
        go_wp2
        go_roundw
        case rel => exact ⟨k + 1, by omega, by go_num, by rw [E.out]; exact hR.out, hB.out⟩
        case measure => simp [intOf]; omega
      | true =>
        rw [hp] at y0
        by_cases h0 : 0 < k ∧ p (k - 1) = true
        · obtain ⟨f, t, e1, e2⟩ := spansU_on hp h0 (by omega)
          have E : Hid (spansU p (k + 1) = f ++ [(t.1, k)]) := e2
          have y1 : wr.cell? ⟨g, k - 1, none⟩ = some (.bool true) := by
            rw [← h0.2]; exact (hB.out.cell (p := ⟨g, k - 1, none⟩) hg).trans (HP.out.cell (by omega)).1
          have hRf : Row wr w.heap.size u3 (f ++ [t]) := by have := hR.out; rwa [e1] at this
          obtain ⟨ad, cap, rfl, hcap, hat⟩ := hRf.form
          obtain ⟨gl, rfl, hgb, hgl, hcell⟩ := hat (by simp)
          obtain ⟨t0, t1⟩ := hcell f.length (by simp)
          rw [List.getElem_concat_length rfl] at t0 t1
          have hL : (f ++ [t]).length = f.length + 1 := by simp
          have HRf : Hid (Row wr w.heap.size (.slice (some ⟨gl, 0, none⟩) (f.length + 1) cap) (f ++ [t])) := by rw [← hL]; exact hRf
          have fz := HRf.out.frozen (f.length * 2 + 1)
          have hlenf : f.length ≤ 65536 := by rw [e1] at hlen; simp at hlen; omega
          have hkk : 0 < k := h0.1
          clear hRf hcell hat hp h0 e1 e2 hL hlen hR
          obtain ⟨m, rfl⟩ : ∃ m, k = m + 1 := ⟨k - 1, by omega⟩
          simp only [Nat.add_sub_cancel] at y1
          have d0 : decide ((0 : Int) < (m : Int) + 1) = true := decide_eq_true (by omega)
          have hm1 : (m : Int) + 1 < 65536 := by omega
          have hm2 : (m : Int) < 65536 := by omega
          clear hk0 hlt' hkk
          go_wp2
          go_roundw
          case rel =>
            have e3 : (m : Int) + 1 = ((m + 1 : Nat) : Int) := by omega
            rw [e3, show (f ++ [t]).length = f.length + 1 by simp]
            have hset := HRf.out.setHi (m + 1)
            exact ⟨m + 1 + 1, by omega, by go_num, by rw [E.out]; exact hset.1, hB.out.setCell (by show w.heap.size ≤ gl; omega) _⟩
          case measure => simp [intOf]; omega
        · have E : Hid (spansU p (k + 1) = spansU p k ++ [(k, k)]) := spansU_new hp h0
          by_cases hkk : 0 < k
          · have hp1 : p (k - 1) = false := by
              cases hc : p (k - 1) with
              | false => rfl
              | true => exact absurd ⟨hkk, hc⟩ h0
            have y1 : wr.cell? ⟨g, k - 1, none⟩ = some (.bool false) := by
              rw [← hp1]; exact (hB.out.cell (p := ⟨g, k - 1, none⟩) hg).trans (HP.out.cell (by omega)).1
            obtain ⟨m, rfl⟩ : ∃ m, k = m + 1 := ⟨k - 1, by omega⟩
            simp only [Nat.add_sub_cancel] at y1
            have d0 : decide ((0 : Int) < (m : Int) + 1) = true := decide_eq_true (by omega)
            have hm1 : (m : Int) + 1 < 65536 := by omega
            have hm2 : (m : Int) < 65536 := by omega
            clear hp hp1 h0 hk0 hlt' hkk
            go_wp2_with (at_builtin; refine wpList_append_rows rfl (.tmp 33) (.tmp 39) rfl w.heap.size _ (spansU p (m + 1)) rfl (hR.out.alloc _) w.heap.size _ [(m + 1, m + 1)] rfl (Row.one2 wr w.heap.size (m + 1) (m + 1) rfl (by first | rfl | omega) (by first | rfl | omega) (by omega)) (by first | omega | (simp; omega)) (by first | omega | (simp; done) | (simp; omega)) ?_; intro v5 w5 hrow5 hgr5)
            go_roundw
            case rel => exact ⟨m + 1 + 1, by omega, by go_num, by rw [E.out]; exact hrow5, (hB.out.alloc (by omega) _).grown hgr5 (by simp; omega) (fun x hx => (hR.out.lt x hx).1)⟩
            case measure => simp [intOf]; omega
          · obtain rfl : k = 0 := by omega
            clear hp h0 hk0 hlt' hkk
            go_wp2_with (at_builtin; refine wpList_append_rows rfl (.tmp 33) (.tmp 39) rfl w.heap.size _ (spansU p 0) rfl (hR.out.alloc _) w.heap.size _ [(0, 0)] rfl (Row.one2 wr w.heap.size 0 0 rfl (by first | rfl | omega) (by first | rfl | omega) (by omega)) (by first | omega | (simp; omega)) (by first | omega | (simp; done) | (simp; omega)) ?_; intro v5 w5 hrow5 hgr5)
            go_roundw
            case rel => exact ⟨1, by omega, by go_num, by rw [E.out]; exact hrow5, (hB.out.alloc (by omega) _).grown hgr5 (by simp; omega) (fun x hx => (hR.out.lt x hx).1)⟩
            case measure => simp [intOf]
    · obtain rfl : k = 65536 := by omega
      go_wp2
      go_ret
      exact ⟨_, rfl, hR.out, hB.out⟩
end Go.Proofs.Ytapaoemcjpfpoaa
