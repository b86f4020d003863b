/-
  For every two masks and every protocol, the pieces of one mask without the other lie within the one, have nothing in common with the other, are at most eight, and hold the protocol, one of them alone, just if the one holds it and the other does not (P4.6); of masks that may not be nothing is told; and the examples of the document hold.
  Conditions: none; the law holds for every input.
-/
import Derived.Test.YtphfjhkbbodfaaaMkAw
import Derived.Deep.RegionWith
import Derived.Test.YtphfjhkbbodfaaaMkFrame
namespace Go.Proofs.Ytphfjhkbbodfaaa
open Go.ChangeShapes Go.WideShapes Go.ChangeAt Go.RowKit Go.Joins
set_option linter.unusedVariables false
set_option linter.unusedSimpArgs false

/-- A world that keeps all that was there. -/
def Ext (W w : World) : Prop := Below W.heap.size W w
theorem fresh_on {wr w4 : World} {a b : Value} {t : TypeId} (hb : Below (wr.alloc (.cells #[a, b] t)).drew.heap.size (wr.alloc (.cells #[a, b] t)).drew w4) :
    w4.cell? ⟨wr.heap.size, 0, none⟩ = some a ∧ w4.cell? ⟨wr.heap.size, 1, none⟩ = some b ∧ w4.frozen? ⟨wr.heap.size, 0, none⟩ = false ∧ w4.frozen? ⟨wr.heap.size, 1, none⟩ = false ∧ wr.heap.size < w4.heap.size := by
  refine ⟨cell_on1 hb (by simp [go_sem]), cell_on1 hb (by simp [go_sem]), ?_, ?_, ?_⟩
  · rw [hb.frozen (by simp)]; simp [go_sem]
  · rw [hb.frozen (by simp)]; simp [go_sem]
  · have := hb.size; simp at this; omega
theorem cnt_step (p : Nat) (L : List (Nat × Nat)) (k : Nat) (h : k < L.length) : cnt p (L.take (k + 1)) = cnt p (L.take k) + if hasM (L[k]).1 (L[k]).2 p = true then 1 else 0 := by
  rw [List.take_succ_eq_append_getElem h, cnt_append, cnt_one]
theorem cnt_le (p : Nat) (L : List (Nat × Nat)) (k : Nat) : cnt p (L.take k) ≤ k := by
  have := List.countP_le_length (p := fun m : Nat × Nat => hasM m.1 m.2 p) (l := L.take k)
  rw [List.length_take] at this
  unfold cnt
  omega
set_option maxHeartbeats 2000000 in
theorem splits_bad (v c : Nat) (hv : v < 256) (hc : c < 256) (x d : Nat) (hx : x < 256) (hd : d < 256) (p : Nat) (hp : p < 256) (h : (okM v c && okM x d) = false) (w : World) :
    Calls Try.prog 8 #[.agg #[.int .u8 v, .int .u8 c], .agg #[.int .u8 x, .int .u8 d], .int .u8 p] w fun e w' => e = .returned (.bool true) ∧ Below w.heap.size w w' := by
  have hcal := fun W => rcheckM v c W hv hc
  have hcal2 := fun W => rcheckM x d W hx hd
  have hless := fun W => lessC v c x d W hv hc hx hd
  rw [lessM_bad h] at hless
  go_enter Try.func8, Try.ntmps8
  go_wp2_with (fail)
  refine (hcal _).mono ?_
  rintro e w1 ⟨rfl, hb1⟩
  have a0 : w1.cell? ⟨w.heap.size, 0, none⟩ = some (.int .u8 v) := cell_on1 hb1 (by simp [go_sem])
  have a1 : w1.cell? ⟨w.heap.size, 1, none⟩ = some (.int .u8 c) := cell_on1 hb1 (by simp [go_sem])
  have b0 : w1.cell? ⟨w.heap.size + 1, 0, none⟩ = some (.int .u8 x) := cell_on1 hb1 (by simp [go_sem])
  have b1 : w1.cell? ⟨w.heap.size + 1, 1, none⟩ = some (.int .u8 d) := cell_on1 hb1 (by simp [go_sem])
  have hbw1 : Hid (Below w.heap.size w w1) := by show Below _ _ _; (repeat (first | assumption | exact Below.refl _ _ | refine Below.drew ?_ | refine bel_drewN ?_ _ | refine Below.setCell ?_ (by first | omega | (simp; done) | (simp; omega)) _ | refine Below.alloc ?_ (by first | omega | (simp; done) | (simp; omega)) _ | refine bel_of ?_ (by assumption)))
  have hz1 := hbw1.out.size
  clear hb1 hcal
  have fin : ∀ (W : World), W.cell? ⟨w.heap.size, 0, none⟩ = some (.int .u8 v) → True := fun _ _ => trivial
  clear fin
  cases h1 : okM v c
  · rw [chk_no h1]
    clear h1 h hcal2
    go_wp2_with (fail)
    refine (awakeM _).mono ?_
    rintro e w2 ⟨rfl, hb2⟩
    have A0 := cell_on1 hb2 a0
    have A1 := cell_on1 hb2 a1
    have B0 := cell_on1 hb2 b0
    have B1 := cell_on1 hb2 b1
    have hbw2 : Hid (Below w.heap.size w w2) := hbw1.out.trans (hb2.mono hz1)
    have hz2 := hbw2.out.size
    clear hb2 a0 a1 b0 b1 hbw1
    go_wp2_with (fail)
    refine (hless _).mono ?_
    rintro e w3 ⟨v3, rfl, hr3, hb3⟩
    have hbw3 : Hid (Below w.heap.size w w3) := hbw2.out.trans (hb3.mono hz2)
    obtain ⟨ad, cap, rfl, _, _⟩ := hr3.form
    clear hr3 hb3
    go_wp2
    go_ret
    exact ⟨rfl, hbw3.out⟩
  · rw [chk_ok h1]
    rw [h1, Bool.true_and] at h
    rw [chk_no h] at hcal2
    clear h1 h
    go_wp2_with (fail)
    refine (hcal2 _).mono ?_
    rintro e w9 ⟨rfl, hb9⟩
    have c0 := cell_on1 hb9 a0
    have c1 := cell_on1 hb9 a1
    have d0 := cell_on1 hb9 b0
    have d1 := cell_on1 hb9 b1
    have hbw9 : Hid (Below w.heap.size w w9) := hbw1.out.trans (hb9.mono hz1)
    have hz9 := hbw9.out.size
    clear hb9 a0 a1 b0 b1 hbw1 hcal2
    go_wp2_with (fail)
    refine (awakeM _).mono ?_
    rintro e w2 ⟨rfl, hb2⟩
    have A0 := cell_on1 hb2 c0
    have A1 := cell_on1 hb2 c1
    have B0 := cell_on1 hb2 d0
    have B1 := cell_on1 hb2 d1
    have hbw2 : Hid (Below w.heap.size w w2) := hbw9.out.trans (hb2.mono hz9)
    have hz2 := hbw2.out.size
    clear hb2 c0 c1 d0 d1 hbw9
    go_wp2_with (fail)
    refine (hless _).mono ?_
    rintro e w3 ⟨v3, rfl, hr3, hb3⟩
    have hbw3 : Hid (Below w.heap.size w w3) := hbw2.out.trans (hb3.mono hz2)
    obtain ⟨ad, cap, rfl, _, _⟩ := hr3.form
    clear hr3 hb3
    go_wp2
    go_ret
    exact ⟨rfl, hbw3.out⟩
set_option maxHeartbeats 4000000 in
theorem splits_good (v c : Nat) (hv : v < 256) (hc : c < 256) (x d : Nat) (hx : x < 256) (hd : d < 256) (p : Nat) (hp : p < 256) (h1 : okM v c = true) (h2 : okM x d = true) (w : World) :
    Calls Try.prog 8 #[.agg #[.int .u8 v, .int .u8 c], .agg #[.int .u8 x, .int .u8 d], .int .u8 p] w fun e w' => e = .returned (.bool true) ∧ Below w.heap.size w w' := by
  have hcal := fun W => rcheckM v c W hv hc
  have hcal2 := fun W => rcheckM x d W hx hd
  rw [chk_ok h1] at hcal
  rw [chk_ok h2] at hcal2
  have hless := fun W => lessC v c x d W hv hc hx hd
  have hha := fun W => hasC v c p W hp hc
  have hhb := fun W => hasC x d p W hp hd
  have FE : Hid (cnt p (lessM v c x d) = if (hasM v c p && !hasM x d p) = true then 1 else 0) := cnt_lessM h1 h2 hc hv hd hx
  have FL : Hid (∀ m ∈ lessM v c x d, m.1 < 256 ∧ m.2 < 256) := lessM_lt hv hc hx hd
  have FM : Hid (∀ m ∈ lessM v c x d, okM m.1 m.2 = true ∧ apM m.1 m.2 x d = true ∧ wiM m.1 m.2 v c = true) := lessM_each h1 h2
  have hlen := lessM_le v c x d
  generalize lessM v c x d = L at hless FE FL FM hlen
  generalize hasM v c p = ia at hha FE
  generalize hasM x d p = ib at hhb FE
  clear h1 h2
  go_enter Try.func8, Try.ntmps8
  go_wp2_with (fail)
  refine (hcal _).mono ?_
  rintro e w1 ⟨rfl, hb1⟩
  have a0 : w1.cell? ⟨w.heap.size, 0, none⟩ = some (.int .u8 v) := cell_on1 hb1 (by simp [go_sem])
  have a1 : w1.cell? ⟨w.heap.size, 1, none⟩ = some (.int .u8 c) := cell_on1 hb1 (by simp [go_sem])
  have b0 : w1.cell? ⟨w.heap.size + 1, 0, none⟩ = some (.int .u8 x) := cell_on1 hb1 (by simp [go_sem])
  have b1 : w1.cell? ⟨w.heap.size + 1, 1, none⟩ = some (.int .u8 d) := cell_on1 hb1 (by simp [go_sem])
  have hbw1 : Hid (Below w.heap.size w w1) := by show Below _ _ _; (repeat (first | assumption | exact Below.refl _ _ | refine Below.drew ?_ | refine bel_drewN ?_ _ | refine Below.setCell ?_ (by first | omega | (simp; done) | (simp; omega)) _ | refine Below.alloc ?_ (by first | omega | (simp; done) | (simp; omega)) _ | refine bel_of ?_ (by assumption)))
  have hz1 := hbw1.out.size
  clear hb1 hcal
  go_wp2_with (fail)
  refine (hcal2 _).mono ?_
  rintro e w2 ⟨rfl, hb2⟩
  have c0 := cell_on1 hb2 a0
  have c1 := cell_on1 hb2 a1
  have d0 := cell_on1 hb2 b0
  have d1 := cell_on1 hb2 b1
  have hbw2 : Hid (Below w.heap.size w w2) := hbw1.out.trans (hb2.mono hz1)
  have hz2 := hbw2.out.size
  clear hb2 a0 a1 b0 b1 hbw1 hcal2
  go_wp2_with (fail)
  refine (hless _).mono ?_
  rintro e w3 ⟨v3, rfl, hr3, hb3⟩
  have A0 := cell_on1 hb3 c0
  have A1 := cell_on1 hb3 c1
  have B0 := cell_on1 hb3 d0
  have B1 := cell_on1 hb3 d1
  have hbw3 : Hid (Below w.heap.size w w3) := hbw2.out.trans (hb3.mono hz2)
  obtain ⟨ad, cap, rfl, hcap, hat⟩ := hr3.form
  have hz3 := hbw3.out.size
  clear hr3 hb3 c0 c1 d0 d1 hbw2 hless hz1 hz2
  go_wp2_with (fail)
  go_loopw [8, 9, 10, 11] (fun nv iv _ _ wr => ∃ k : Nat, k ≤ L.length ∧ iv = .int .i64 k ∧ nv = .int .i64 ((cnt p (L.take k) : Nat) : Int) ∧ Hid (Below w3.heap.size w3 wr)) (fun _ iv _ _ _ => L.length - (intOf iv).toNat)
  case atStart => exact ⟨0, Nat.zero_le _, rfl, rfl, by show Below _ _ _; (repeat (first | assumption | exact Below.refl _ _ | refine Below.drew ?_ | refine bel_drewN ?_ _ | refine Below.setCell ?_ (by first | omega | (simp; done) | (simp; omega)) _ | refine Below.alloc ?_ (by first | omega | (simp; done) | (simp; omega)) _ | refine bel_of ?_ (by assumption)))⟩
  case round =>
    obtain ⟨k, hk, rfl, rfl, hbw⟩ := hrel
    have a0 := cell_on1 hbw.out A0
    have a1 := cell_on1 hbw.out A1
    have b0 := cell_on1 hbw.out B0
    have b1 := cell_on1 hbw.out B1
    by_cases hlt : k < L.length
    · have hlt' : (k : Int) < ((L.length : Nat) : Int) := by omega
      have hk0 : (0 : Int) ≤ (k : Int) := by omega
      obtain ⟨g, rfl, hg1, hg2, hat2⟩ := hat (by omega)
      obtain ⟨m, hm⟩ : ∃ m, m = L[k] := ⟨_, rfl⟩
      have hmem : m ∈ L := by rw [hm]; exact List.getElem_mem _
      obtain ⟨q0, q1⟩ := hat2 k hlt
      rw [← hm] at q0 q1
      have x0 := cell_on1 hbw.out q0
      have x1 := cell_on1 hbw.out q1
      obtain ⟨m1, m2⟩ := FL.out m hmem
      obtain ⟨o1, o2, o3⟩ := FM.out m hmem
      have hme : ∀ W, Calls Try.prog 18 #[.agg #[.int .u8 (m.1), .int .u8 (m.2)], .agg #[.int .u8 x, .int .u8 d]] W fun e w' => e = .returned (.tuple #[.agg #[.int .u8 0, .int .u8 0], .bool false]) ∧ Ext W w' := fun W => meet_no m.1 m.2 x d W m1 m2 hx hd (by rw [o2]; simp)
      have hwi := fun W => withinM m.1 m.2 v c W m1 m2 hv hc
      rw [o3] at hwi
      have hhm := fun W => hasC m.1 m.2 p W hp m2
      have HC : Hid (cnt p (L.take (k + 1)) = cnt p (L.take k) + if hasM m.1 m.2 p = true then 1 else 0) := by show _ = _; rw [cnt_step p L k hlt, hm]
      have HCL : Hid (cnt p (L.take k) ≤ k) := cnt_le p L k
      have hzr := hbw.out.size
      generalize hasM m.1 m.2 p = ih at hhm HC
      obtain ⟨mv, mc⟩ := m
      simp only at x0 x1 hme hwi hhm
      clear hat hat2 q0 q1 A0 A1 B0 B1 hm hmem m1 m2 o1 o2 o3 FM FL
      go_wp2_with (fail)
      have gg : g < wr.heap.size := World.block_lt_of_cell? _ _ x0
      have gb : w.heap.size + 1 < wr.heap.size := World.block_lt_of_cell? _ _ b0
      have ga : w.heap.size < wr.heap.size := by omega
      have ng : ¬ g = wr.heap.size := by omega
      have nb : ¬ w.heap.size + 1 = wr.heap.size := by omega
      have na : ¬ w.heap.size = wr.heap.size := by omega
      have hF0 : ∀ w4, Ext (wr.alloc (.cells #[.int .u8 0, .int .u8 0] 23)).drew w4 → w4.cell? ⟨wr.heap.size, 0, none⟩ = some (.int .u8 0) := fun w4 hb => (fresh_on hb).1
      have hF1 : ∀ w4, Ext (wr.alloc (.cells #[.int .u8 0, .int .u8 0] 23)).drew w4 → w4.cell? ⟨wr.heap.size, 1, none⟩ = some (.int .u8 0) := fun w4 hb => (fresh_on hb).2.1
      have hF2 : ∀ w4, Ext (wr.alloc (.cells #[.int .u8 0, .int .u8 0] 23)).drew w4 → w4.frozen? ⟨wr.heap.size, 0, none⟩ = false := fun w4 hb => (fresh_on hb).2.2.1
      have hF3 : ∀ w4, Ext (wr.alloc (.cells #[.int .u8 0, .int .u8 0] 23)).drew w4 → w4.frozen? ⟨wr.heap.size, 1, none⟩ = false := fun w4 hb => (fresh_on hb).2.2.2.1
      go_region_with (go_at_call 18; refine (hme _).mono ?_; rintro e w4 ⟨rfl, hb4⟩)
      all_goals
        clear hF0 hF1 hF2 hF3
        have hb5 := hb4
        unfold Ext at hb5
        have hbR : Below wr.heap.size wr w4 := by (repeat (first | assumption | exact Below.refl _ _ | refine Below.drew ?_ | refine bel_drewN ?_ _ | refine Below.setCell ?_ (by first | omega | (simp; done) | (simp; omega)) _ | refine Below.alloc ?_ (by first | omega | (simp; done) | (simp; omega)) _ | refine bel_of ?_ (by assumption)))
        have hzR := hbR.size
        clear hb5
        go_wp2_with (fail)
        have kne : Nonempty (Kin wr) := ⟨⟨_, Below.refl _ _⟩⟩
        have kc0 : ∀ y : Kin wr, y.val.cell? ⟨g, k * 2, none⟩ = some (.int .u8 mv) := fun y => cell_on1 y.is x0
        have kc1 : ∀ y : Kin wr, y.val.cell? ⟨g, k * 2 + 1, none⟩ = some (.int .u8 mc) := fun y => cell_on1 y.is x1
        have kc2 : ∀ y : Kin wr, y.val.cell? ⟨w.heap.size, 0, none⟩ = some (.int .u8 v) := fun y => cell_on1 y.is a0
        have kc3 : ∀ y : Kin wr, y.val.cell? ⟨w.heap.size, 1, none⟩ = some (.int .u8 c) := fun y => cell_on1 y.is a1
        refine wp_region_kin wr (by (repeat (first | assumption | exact Below.refl _ _ | refine Below.drew ?_ | refine bel_drewN ?_ _ | refine Below.setCell ?_ (by first | omega | (simp; done) | (simp; omega)) _ | refine Below.alloc ?_ (by first | omega | (simp; done) | (simp; omega)) _ | refine bel_of ?_ (by assumption)))) (by kernel_rfl) (by kernel_rfl) ?_
        simp only [List.getElem_toArray, List.getElem_cons_succ, List.getElem_cons_zero, Act.put, List.setIfInBounds_toArray, List.set_cons_zero, List.set_cons_succ]
        repeat (go_big_quiet_step (first | (go_at_call 20; exact kin_call (hwi _))))
        refine wpQuiet_nil ?_
        rintro wq ⟨⟨xq, hxq⟩, hyq⟩
        have hq : Below wr.heap.size wr wq := by rw [hyq]; exact hxq
        clear hyq hxq xq kne kc0 kc1 kc2 kc3
        have z0 := cell_on1 hq x0
        have z1 := cell_on1 hq x1
        have hbq : Hid (Below w3.heap.size w3 wq) := hbw.out.trans (hq.mono hzr)
        have hzq := hbq.out.size
        clear hq x0 x1 a0 a1 b0 b1 hbR
        go_wp2_with (fail)
        refine (hhm _).mono ?_
        rintro e w5 ⟨rfl, hb5⟩
        have hbw5 : Hid (Below w3.heap.size w3 w5) := hbq.out.trans (hb5.mono hzq)
        clear hb5 z0 z1
        cases ih
        · go_wp2_with (fail)
          go_roundw
          case rel => exact ⟨k + 1, by omega, by go_num, by rw [HC.out]; simp, hbw5.out⟩
          case measure => simp [intOf]; omega
        · go_wp2_with (fail)
          go_roundw
          case rel => exact ⟨k + 1, by omega, by go_num, by have := HCL.out; rw [HC.out]; simp [wrap64]; omega, hbw5.out⟩
          case measure => simp [intOf]; omega
    · obtain rfl : k = L.length := by omega
      rw [List.take_length]
      have hbw0 : Hid (Below w.heap.size w wr) := hbw3.out.trans (hbw.out.mono hz3)
      have hzr := hbw0.out.size
      have hle : ((L.length : Nat) : Int) ≤ 8 := by omega
      have hle2 : decide (((L.length : Nat) : Int) ≤ 8) = true := decide_eq_true hle
      have hFE := FE.out
      have HF : Hid (((cnt p L : Nat) : Int) = if (ia && !ib) = true then 1 else 0) := by show _ = _; rw [hFE]; split <;> rfl
      generalize ((cnt p L : Nat) : Int) = n at HF
      clear hFE
      clear hbw hbw3 FE FL FM hat A0 A1 B0 B1
      go_wp2_with (fail)
      refine (hha _).mono ?_
      rintro e w4 ⟨rfl, hb4⟩
      have d0 := cell_on1 hb4 b0
      have d1 := cell_on1 hb4 b1
      have hbw4 : Hid (Below w.heap.size w w4) := hbw0.out.trans (hb4.mono hzr)
      have hz4 := hbw4.out.size
      clear hb4 a0 a1 b0 b1 hbw0 hha
      go_wp2_with (fail)
      refine (hhb _).mono ?_
      rintro e w5 ⟨rfl, hb5⟩
      have hbw5 : Hid (Below w.heap.size w w5) := hbw4.out.trans (hb5.mono hz4)
      have hz5 := hbw5.out.size
      clear hb5 d0 d1 hbw4 hhb
      go_wp2_with (fail)
      refine (awakeM _).mono ?_
      rintro e w6 ⟨rfl, hb6⟩
      have hbw6 : Hid (Below w.heap.size w w6) := hbw5.out.trans (hb6.mono hz5)
      clear hb6 hbw5
      cases ia <;> cases ib
      all_goals
        have hm := HF.out
        simp at hm
        subst hm
        clear HF
        go_wp2_with (fail)
        go_ret
        exact ⟨rfl, hbw6.out⟩
theorem maskSplits_walk (v c : Nat) (hv : v < 256) (hc : c < 256) (x d : Nat) (hx : x < 256) (hd : d < 256) (p : Nat) (hp : p < 256) (w : World) :
    Calls Try.prog 8 #[.agg #[.int .u8 v, .int .u8 c], .agg #[.int .u8 x, .int .u8 d], .int .u8 p] w fun e w' => e = .returned (.bool true) ∧ Below w.heap.size w w' := by
  cases h : (okM v c && okM x d)
  · exact splits_bad v c hv hc x d hx hd p hp h w
  · rw [Bool.and_eq_true] at h
    exact splits_good v c hv hc x d hx hd p hp h.1 h.2 w

set_option maxRecDepth 100000 in
theorem maskSplits_lifted (os : Os) (started : os.Started) (H : Type) (enc : TypeId × Value → H) :
    ReturnsInHanded {} Try.checked os 8 .any (Rows.maskSplitsSpec.pre6 enc Try.prog Try.f8 Rows.maskSplitsRow.domain false) (Rows.maskSplitsSpec.post enc Try.prog Try.f8 false true false false) := by
  refine returnsInHanded_of_change (C := Try.checked) own started (by kernel_rfl) Try.func8
    (ChangeSpec.witness6 (enc := enc) (C := Try.checked) false ⟨#[], #[.agg #[.int .u8 0, .int .u8 0], .agg #[.int .u8 0, .int .u8 0], .int .u8 0], []⟩ 8 (by kernel_rfl) (by kernel_rfl) (by kernel_rfl) (by kernel_rfl)) ?_
  intro W base args ds gs before hval0 hW hcnd _
  have hval : ∀ (j : Nat) t v, Try.f8.params[j]? = some t → args[j]? = some v → Value.okWide Try.prog W .any base t v := hval0
  have hW' := hW
  obtain ⟨p, q, hA0, hV, rfl, hfz, hnd⟩ := hW
  have hA : DataW.TrodAll enc Try.prog W 0 (fun _ => true) true Try.f8.params.toList args.toList ds p := hA0
  rw [Try.params8] at hA hval
  obtain ⟨v0, vs0, d0, ds0, p0, q0, hargs, rfl, rfl, h0, r0⟩ := trodAll_cons hA
  obtain ⟨v1, vs1, d1, ds1, p1, q1, rfl, rfl, rfl, h1, r1⟩ := trodAll_cons r0
  obtain ⟨v2, vs2, d2, ds2, p2, q2, rfl, rfl, rfl, h2, r2⟩ := trodAll_cons r1
  obtain ⟨rfl, rfl, rfl⟩ := trodAll_nil r2
  obtain rfl : args = #[v0, v1, v2] := by cases args; simp_all
  obtain ⟨rfl, rfl⟩ := trodVars_none hV
  obtain ⟨a0, n0, rfl, rfl, rfl, w0, x0⟩ := open_mk (hval 0 23 v0 rfl rfl) h0
  obtain ⟨b0, rfl, t0⟩ := wf_u8 w0
  obtain ⟨c0, rfl, u0⟩ := wf_u8 x0
  obtain ⟨a1, n1, rfl, rfl, rfl, w1, x1⟩ := open_mk (hval 1 23 v1 rfl rfl) h1
  obtain ⟨b1, rfl, t1⟩ := wf_u8 w1
  obtain ⟨c1, rfl, u1⟩ := wf_u8 x1
  obtain ⟨a2, rfl, rfl, rfl, w2⟩ := open_int Try.underlying5 (hval 2 5 v2 rfl rfl) h2
  obtain ⟨b2, rfl, t2⟩ := wf_u8 w2
  clear hA0 hval0
  simp only [List.append_nil] at hW'
  refine (maskSplits_walk b0 c0 t0 u0 b1 c1 t1 u1 b2 t2 W ).mono fun e W' ⟨he, bel⟩ => ?_
  subst he
  exact ⟨_, rfl, _, _, _, [], _, [], hW', trodAll_mk1 (shut_bool Try.underlying4 _), (trodAll_cons_mk (shut_mk w0 x0) (trodAll_cons_mk (shut_mk w1 x1) (trodAll_cons_mk (shut_int Try.underlying5 w2) trodAll_mk0))), rfl, bel.frame _, fun h => by cases h⟩

/-- The given statement. -/
theorem maskSplits_holds : Rows.MaskSplitsSaid :=
  OpenClaim.holds_of_wide 8 Try.f8 rfl rfl rfl rfl rfl rfl rfl ⟨rfl, rfl, rfl, rfl, rfl⟩ rfl rfl rfl rfl rfl (by kernel_rfl) Try.func8 (by kernel_rfl)
    (of_decide_eq_true (by kernel_rfl)) (by unfold Func.isWrapper; first | (rw [if_pos (by decide +kernel)]; kernel_rfl) | (rw [if_neg (by decide +kernel)]; exact ⟨rfl, rfl⟩))
    (fun os started H enc _ => maskSplits_lifted os started H enc)
#print axioms maskSplits_holds
end Go.Proofs.Ytphfjhkbbodfaaa
