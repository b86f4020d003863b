/-
  cover, Of and Count of package expand.
-/
import Derived.Test.YtapaoemcjpfpoaaExPk
import Derived.Test.YtapaoemcjpfpoaaSpSr
namespace Go.Proofs.Ytapaoemcjpfpoaa
open Go.RowKit
set_option linter.unusedVariables false
set_option linter.unusedSimpArgs false

set_option maxHeartbeats 1000000 in
theorem coverT (l : List (Nat × Nat)) (v : Value) (w : World) (hs : Src w v l) (hc : ∀ s ∈ l, s.1 ≤ s.2 ∧ s.2 < 65536) (hl : l.length ≤ 65536) :
    Calls Try.prog 40 #[v] w fun e w' => ∃ v' : Value, e = .returned v' ∧ RowT w' w.heap.size v' (grds l) ∧ Below w.heap.size w w' := by
  obtain ⟨ad, cap, rfl, hat⟩ := hs.at
  clear hs
  have HC : Hid (∀ s ∈ l, s.1 ≤ s.2 ∧ s.2 < 65536) := hc
  clear hc
  go_enter Try.func40, Try.ntmps40
  go_wp2_with (fail)
  go_loopw [10] (fun iv wr => ∃ k : Nat, k ≤ l.length ∧ iv = .int .i64 (k : Int) ∧ Hid (Met w.heap.size wr (grds (l.take k))) ∧ Hid (Below w.heap.size w wr)) (fun iv _ => l.length - (intOf iv).toNat)
  case atStart => exact ⟨0, Nat.zero_le _, rfl, ⟨.slice none 0 0, heap_alloc_new _ _, RowT.nil _ _⟩, by show Below _ _ _; (repeat (first | assumption | exact Below.refl _ _ | refine Below.drew ?_ | refine bel_drewN ?_ _ | refine Below.setCell ?_ (by first | omega | (simp; done) | (simp; omega)) _ | refine Below.alloc ?_ (by first | omega | (simp; done) | (simp; omega)) _ | refine bel_of ?_ (by assumption)))⟩
  case round =>
    obtain ⟨k, hk, rfl, hmet, hbl⟩ := hrel
    by_cases hlt : k < l.length
    · obtain ⟨g, off, rfl, hcell⟩ := hat (by omega)
      obtain ⟨s, hs⟩ : ∃ s, s = l[k] := ⟨_, rfl⟩
      obtain ⟨x0, x1⟩ := hcell k hlt
      rw [← hs] at x0 x1
      have y0 := (hbl.out.cell (World.block_lt_of_cell? _ _ x0)).trans x0
      have y1 := (hbl.out.cell (World.block_lt_of_cell? _ _ x1)).trans x1
      have hz := hbl.out.size
      have hlt' : (k : Int) < (l.length : Int) := by omega
      have hk0 : (0 : Int) ≤ (k : Int) := by omega
      have HS : Hid (s = l[k]) := hs
      have hok : s.1 ≤ s.2 ∧ s.2 < 65536 := HC.out s (by rw [hs]; exact List.getElem_mem _)
      have hln : (grds (l.take k)).length + 65536 ≤ 4294967296 := by
        have h1 := grds_len (l.take k)
        rw [List.length_take, Nat.min_eq_left hk] at h1
        omega
      have hcl := fun W hW => climbK s.1 s.2 w.heap.size (grds (l.take k)) W hok.1 hok.2 hW hln
      have HL : Hid (grds (l.take (k + 1)) = grds (l.take k) ++ grd 65536 s.1 (s.2 + 1 - s.1)) := by
        show _ = _
        rw [List.take_succ_eq_append_getElem hlt, grds_snoc, ← hs]
      clear hat hcell x0 x1 hs hln hok
      go_wp2_with (fail)
      refine (hcl _ (hmet.out.alloc _)).mono ?_
      rintro e w2 ⟨rfl, hmet2, hb2⟩
      have HM2 : Hid (Met w.heap.size w2 (grds (l.take (k + 1)))) := by show Met _ _ _; rw [HL.out]; exact hmet2
      have HB2 : Hid (Below w.heap.size w w2) := (hbl.out.alloc hz _).trans hb2
      clear hcl hmet2 hb2 hmet hbl HL y0 y1 HS
      go_wp2
      go_roundw
      case rel => exact ⟨k + 1, by omega, by go_num, HM2.out, HB2.out⟩
      case measure => simp [intOf]; omega
    · obtain rfl : k = l.length := by omega
      obtain ⟨v, h1, h2⟩ := hmet.out
      rw [List.take_length] at h2
      obtain ⟨ad', cap', rfl, _, _⟩ := h2.form
      have c1 := cell_of_one h1
      have H2 : Hid (RowT wr (w.heap.size + 1) (.slice ad' (grds l).length cap') (grds l)) := h2
      clear h1 h2 hmet hat
      go_wp2
      go_ret
      exact ⟨_, rfl, H2.out.base (by omega), hbl.out⟩
theorem ofN : OfN := by
  intro lo hi w hlo h
  have hk : chkS lo hi = 30 := if_pos h
  have hc := fun W => checkS lo hi W
  rw [hk] at hc
  clear hk
  go_enter Try.func18, Try.ntmps18
  go_wp2_with (go_at_call 37; refine (hc _).mono ?_; rintro e w1 ⟨rfl, hb1⟩)
  go_ret2
  exact ⟨_, rfl, RowT.nil _ _, by (repeat (first | assumption | exact Below.refl _ _ | refine Below.drew ?_ | refine bel_drewN ?_ _ | refine Below.setCell ?_ (by first | omega | (simp; done) | (simp; omega)) _ | refine Below.alloc ?_ (by first | omega | (simp; done) | (simp; omega)) _ | refine bel_of ?_ (by assumption)))⟩
set_option maxHeartbeats 1000000 in
theorem ofC : OfC := by
  intro lo hi w h hh
  have hk : chkS lo hi = 0 := if_neg (by omega)
  have hc := fun W => checkS lo hi W
  rw [hk] at hc
  clear hk
  go_enter Try.func18, Try.ntmps18
  go_wp2_with (fail)
  refine (hc _).mono ?_
  rintro e w1 ⟨rfl, hb1⟩
  have z0 : w1.cell? ⟨w.heap.size, 0, none⟩ = some (.int .u16 lo) := cell_on hb1 (by simp [go_sem])
  have z1 : w1.cell? ⟨w.heap.size, 1, none⟩ = some (.int .u16 hi) := cell_on hb1 (by simp [go_sem])
  have hz1 := hb1.size
  simp at hz1
  have HB : Hid (Below w.heap.size w w1) := by show Below _ _ _; (repeat (first | assumption | exact Below.refl _ _ | refine Below.drew ?_ | refine bel_drewN ?_ _ | refine Below.setCell ?_ (by first | omega | (simp; done) | (simp; omega)) _ | refine Below.alloc ?_ (by first | omega | (simp; done) | (simp; omega)) _ | refine bel_of ?_ (by assumption)))
  clear hb1
  go_wp2_with (fail)
  refine (coverT [(lo, hi)] _ _ (Row.one w1 0 lo hi (by omega)).src (by intro s hs; simp at hs; subst hs; exact ⟨h, hh⟩) (by simp)).mono ?_
  rintro e w2 ⟨v2, rfl, hr2, hb2⟩
  have HR : Hid (RowT w2 w.heap.size v2 (tl (hasB (lo, hi)) 16 0)) := by
    show RowT _ _ _ _
    rw [tl_span h hh, show grd 65536 lo (hi + 1 - lo) = grds [(lo, hi)] by simp [grds]]
    exact hr2.base (by simp; omega)
  have HB2 : Hid (Below w.heap.size w w2) := (HB.out.alloc (by omega) _).trans (hb2.mono (by simp; omega))
  obtain ⟨ad, cap, rfl, _, _⟩ := hr2.form
  clear hr2 hb2
  go_wp2
  go_ret2
  exact ⟨_, rfl, HR.out, HB2.out⟩
theorem cntN : CntN := by
  intro lo hi w hlo h
  have hk : chkS lo hi = 30 := if_pos h
  have hc := fun W => checkS lo hi W
  rw [hk] at hc
  clear hk
  go_enter Try.func17, Try.ntmps17
  go_wp2_with (go_at_call 37; refine (hc _).mono ?_; rintro e w1 ⟨rfl, hb1⟩)
  go_ret2
  exact ⟨rfl, by (repeat (first | assumption | exact Below.refl _ _ | refine Below.drew ?_ | refine bel_drewN ?_ _ | refine Below.setCell ?_ (by first | omega | (simp; done) | (simp; omega)) _ | refine Below.alloc ?_ (by first | omega | (simp; done) | (simp; omega)) _ | refine bel_of ?_ (by assumption)))⟩
set_option maxHeartbeats 1000000 in
theorem cntC : CntC := by
  intro lo hi w h hh
  have hk : chkS lo hi = 0 := if_neg (by omega)
  have hc := fun W => checkS lo hi W
  rw [hk] at hc
  clear hk
  rw [tl_span h hh]
  go_enter Try.func17, Try.ntmps17
  go_wp2_with (fail)
  refine (hc _).mono ?_
  rintro e w1 ⟨rfl, hb1⟩
  have z0 : w1.cell? ⟨w.heap.size, 0, none⟩ = some (.int .u16 lo) := cell_on hb1 (by simp [go_sem])
  have z1 : w1.cell? ⟨w.heap.size, 1, none⟩ = some (.int .u16 hi) := cell_on hb1 (by simp [go_sem])
  have hz1 := hb1.size
  simp at hz1
  have z2 : (w1.alloc (.cells #[.int .i64 0] 3)).cell? ⟨w.heap.size, 0, none⟩ = some (.int .u16 lo) := cell_alloc z0
  have z3 : (w1.alloc (.cells #[.int .i64 0] 3)).cell? ⟨w.heap.size, 1, none⟩ = some (.int .u16 hi) := cell_alloc z1
  have HB : Hid (Below w.heap.size w w1) := by show Below _ _ _; (repeat (first | assumption | exact Below.refl _ _ | refine Below.drew ?_ | refine bel_drewN ?_ _ | refine Below.setCell ?_ (by first | omega | (simp; done) | (simp; omega)) _ | refine Below.alloc ?_ (by first | omega | (simp; done) | (simp; omega)) _ | refine bel_of ?_ (by assumption)))
  clear hb1
  go_wp2_with (fail)
  refine (climbN lo hi w1.heap.size 0 _ h hh (heap_alloc_new _ _) (by omega)).mono ?_
  rintro e w2 ⟨rfl, ht2, hb2⟩
  rw [Nat.zero_add] at ht2
  have c2 := cell_of_one ht2
  have HB2 : Hid (Below w.heap.size w w2) := (HB.out.alloc (by omega) _).trans (hb2.mono (by omega))
  clear ht2 hb2
  go_wp2
  go_ret2
  exact ⟨rfl, HB2.out⟩
end Go.Proofs.Ytapaoemcjpfpoaa
