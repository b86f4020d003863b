/-
  For every two masks that may be and every protocol, what both hold is what their meet holds, the one lies within the other just if the meet is the one, All tells rising what the one holds, as many as Count says, and that is a power of two (P4.6); and the examples of the document hold.
  Conditions: none; the law holds for every input.
-/
import Derived.Test.YtphfjhkbbodfaabMkAw
import Derived.Test.YtphfjhkbbodfaabMkRab
import Derived.Test.YtphfjhkbbodfaabMkPlD
import Derived.Deep.RegionWith
import Derived.Deep.DeepCutAuto
import Derived.Laws.EntriesVeiled
import Derived.Test.YtphfjhkbbodfaabMkFrame
namespace Go.Proofs.Ytphfjhkbbodfaab
open Go.ChangeShapes Go.WideShapes Go.ChangeAt Go.RowKit Go.Joins
set_option linter.unusedVariables false
set_option linter.unusedSimpArgs false

attribute [local go_sem] Oper.semAt_some
theorem frozen_on {W w1 : World} (hb : Below W.heap.size W w1) {p : Addr} {v : Value} (h : W.cell? p = some v) {c : Bool} (hf : W.frozen? p = c) : w1.frozen? p = c := (hb.frozen (World.block_lt_of_cell? W p h)).trans hf
theorem frozen_alloc {W : World} {o : Obj} {b i : Nat} {v : Value} (h : W.cell? ⟨b, i, none⟩ = some v) {c : Bool} (hf : W.frozen? ⟨b, i, none⟩ = c) : (W.alloc o).frozen? ⟨b, i, none⟩ = c := (World.frozen?_alloc_past o b i (World.block_lt_of_cell? W _ h)).trans hf
theorem meets_bad (v c : Nat) (hv : v < 256) (hc : c < 256) (x d : Nat) (hx : x < 256) (hd : d < 256) (p : Nat) (hp : p < 256) (h : (okM v c && okM x d) = false) (w : World) :
    Calls Try.prog 3 #[.agg #[.int .u8 v, .int .u8 c], .agg #[.int .u8 x, .int .u8 d], .int .u8 p] w fun e w' => e = .returned (.bool true) ∧ Below w.heap.size w w' := by
  have hcal := fun W => rcheckM v c W hv hc
  have hcal2 := fun W => rcheckM x d W hx hd
  go_enter Try.func3, Try.ntmps3
  go_wp2_with (fail)
  refine (hcal _).mono ?_
  rintro e w1 ⟨rfl, hb1⟩
  have b0 : w1.cell? ⟨w.heap.size + 1, 0, none⟩ = some (.int .u8 x) := cell_on1 hb1 (by simp [go_sem])
  have b1 : w1.cell? ⟨w.heap.size + 1, 1, none⟩ = some (.int .u8 d) := cell_on1 hb1 (by simp [go_sem])
  have r0 : w1.cell? ⟨w.heap.size + 1 + 1, 0, none⟩ = some (.bool false) := cell_on1 hb1 (by simp [go_sem])
  have f0 : w1.frozen? ⟨w.heap.size + 1 + 1, 0, none⟩ = false := by rw [hb1.frozen (by simp)]; simp [go_sem]
  have hbw1 : Hid (Below w.heap.size w w1) := by show Below _ _ _; (repeat (first | assumption | exact Below.refl _ _ | refine Below.drew ?_ | refine bel_drewN ?_ _ | refine Below.setCell ?_ (by first | omega | (simp; done) | (simp; omega)) _ | refine Below.alloc ?_ (by first | omega | (simp; done) | (simp; omega)) _ | refine bel_of ?_ (by assumption)))
  have hz1 := hbw1.out.size
  clear hb1 hcal
  cases h1 : okM v c
  · rw [chk_no h1]
    clear h1 h hcal2
    go_wp2_with (fail)
    refine (awakeM _).mono ?_
    rintro e w2 ⟨rfl, hb2⟩
    have q0 := cell_on1 hb2 r0
    have g0 := frozen_on hb2 r0 f0
    have hbw2 : Hid (Below w.heap.size w w2) := hbw1.out.trans (hb2.mono hz1)
    clear hb2 hbw1
    go_wp2
    exact bodyPost_ret (v := .bool true) (by simp [results, Try.results3, go_sem, q0]) rfl ⟨rfl, by have := hbw2.out; (repeat (first | assumption | exact Below.refl _ _ | refine Below.drew ?_ | refine bel_drewN ?_ _ | refine Below.setCell ?_ (by first | omega | (simp; done) | (simp; omega)) _ | refine Below.alloc ?_ (by first | omega | (simp; done) | (simp; omega)) _ | refine bel_of ?_ (by assumption)))⟩
  · rw [chk_ok h1]
    rw [h1, Bool.true_and] at h
    rw [chk_no h] at hcal2
    clear h1 h
    go_wp2_with (fail)
    refine (hcal2 _).mono ?_
    rintro e w9 ⟨rfl, hb9⟩
    have r9 := cell_on1 hb9 r0
    have f9 := frozen_on hb9 r0 f0
    have hbw9 : Hid (Below w.heap.size w w9) := hbw1.out.trans (hb9.mono hz1)
    have hz9 := hbw9.out.size
    clear hb9 hbw1 r0 f0
    go_wp2_with (fail)
    refine (awakeM _).mono ?_
    rintro e w2 ⟨rfl, hb2⟩
    have q0 := cell_on1 hb2 r9
    have g0 := frozen_on hb2 r9 f9
    have hbw2 : Hid (Below w.heap.size w w2) := hbw9.out.trans (hb2.mono hz9)
    clear hb2 hbw9
    go_wp2
    exact bodyPost_ret (v := .bool true) (by simp [results, Try.results3, go_sem, q0]) rfl ⟨rfl, by have := hbw2.out; (repeat (first | assumption | exact Below.refl _ _ | refine Below.drew ?_ | refine bel_drewN ?_ _ | refine Below.setCell ?_ (by first | omega | (simp; done) | (simp; omega)) _ | refine Below.alloc ?_ (by first | omega | (simp; done) | (simp; omega)) _ | refine bel_of ?_ (by assumption)))⟩
theorem meet_all {v c x d p : Nat} (hv : v < 256) (hc : c < 256) (hx : x < 256) (hd : d < 256) (hp : p < 256) (h1 : okM v c = true) (h2 : okM x d = true) : ∃ (P Q : Nat) (B hm : Bool),
    (∀ w, Calls Try.prog 7 #[.agg #[.int .u8 v, .int .u8 c], .agg #[.int .u8 x, .int .u8 d]] w fun e w' => e = .returned (.tuple #[.agg #[.int .u8 P, .int .u8 Q], .bool B]) ∧ Below w.heap.size w w')
    ∧ (∀ w, Calls Try.prog 8 #[.agg #[.int .u8 P, .int .u8 Q], .int .u8 p] w fun e w' => e = .returned (.bool hm) ∧ Below w.heap.size w w')
    ∧ (B = true → hm = (hasM v c p && hasM x d p)) ∧ (B = false → (hasM v c p && hasM x d p) = false) ∧ wiM v c x d = (B && (decide (P = v) && decide (Q = c))) := by
  cases h : apM v c x d
  · refine ⟨v ||| x, c ||| d, true, _, fun w => meet_yes v c x d w hv hc hx hd (by rw [h1, h2, h]; rfl), fun w => hasC _ _ p w hp (or_lt hc hd), fun _ => meet_has h1 h2 h, fun e => by (cases e), ?_⟩
    unfold wiM
    rw [h1, h2, h]
    simp [Bool.and_comm]
  · refine ⟨0, 0, false, _, fun w => meet_no v c x d w hv hc hx hd (by rw [h1, h2, h]; rfl), fun w => hasC _ _ p w hp (by decide), fun e => by (cases e), fun _ => apart_has h, ?_⟩
    unfold wiM
    rw [h1, h2, h]
    simp
set_option maxRecDepth 100000 in
set_option maxHeartbeats 8000000 in
theorem meets_good (v c : Nat) (hv : v < 256) (hc : c < 256) (x d : Nat) (hx : x < 256) (hd : d < 256) (p : Nat) (hp : p < 256) (h1 : okM v c = true) (h2 : okM x d = true) (w : World) :
    Calls Try.prog 3 #[.agg #[.int .u8 v, .int .u8 c], .agg #[.int .u8 x, .int .u8 d], .int .u8 p] w fun e w' => e = .returned (.bool true) ∧ Below w.heap.size w w' := by
  have hcal := fun W => rcheckM v c W hv hc
  have hcal2 := fun W => rcheckM x d W hx hd
  rw [chk_ok h1] at hcal
  rw [chk_ok h2] at hcal2
  obtain ⟨P, Q, B, hm, hmeet, hHm, hB1, hB0, hwi⟩ := meet_all (p := p) hv hc hx hd hp h1 h2
  have hHa := fun W => hasC v c p W hp hc
  have hHb := fun W => hasC x d p W hp hd
  have hWi := fun W => withinM v c x d W hv hc hx hd
  have HB : Hid ((B = true → hm = (hasM v c p && hasM x d p)) ∧ (B = false → (hasM v c p && hasM x d p) = false)) := ⟨hB1, hB0⟩
  have HW : Hid (wiM v c x d = (B && (decide (P = v) && decide (Q = c)))) := hwi
  generalize hasM v c p = ia at hHa HB
  generalize hasM x d p = ib at hHb HB
  generalize wiM v c x d = wi at hWi HW
  obtain ⟨pw, hpw, hpk⟩ : ∃ k, cntM v c = 2 ^ k ∧ k ≤ 8 := ⟨Lib.onesCount (255 - c), by unfold cntM; rw [if_pos h1], ones_le8 _ (by omega)⟩
  have hcnt := fun W => countM v c W hv hc
  have HL : Hid ((allX v c 256).length = cntM v c) := by show _ = _; rw [allX_length v c 256 (Nat.le_refl _), allN_length v c hv hc]
  have hC0 : (0 : Int) < ((cntM v c : Nat) : Int) := by rw [hpw]; have := Nat.pow_pos (n := pw) (show 0 < 2 by decide); omega
  have hC1 : bits .and .i64 ((cntM v c : Nat) : Int) (((cntM v c : Nat) : Int) - 1) = 0 := by rw [hpw]; exact pow_and pw hpk
  have hC2 : ((cntM v c : Nat) : Int) ≤ 256 := by have := cntM_le v c hv hc; omega
  generalize cntM v c = C at hcnt HL hC0 hC1 hC2
  clear hB1 hB0 hwi hpw hpk h1 h2
  refine callsIn_wide.1 (callsIn_of_wp_marks (n := 9) Try.func3 rfl trivial ?_ rfl)
  simp only [Try.ntmps3, List.size_toArray, List.length_cons, List.length_nil, Nat.reduceAdd, Nat.reduceSub, Array.replicate_succ, Array.replicate_zero, List.push_toArray, List.append_toArray, List.nil_append, List.cons_append]
  refine wpIn_wide.2 ?_
  go_wp2_with (fail)
  refine (hcal _).mono ?_
  rintro e w1 ⟨rfl, hb1⟩
  have a0 : w1.cell? ⟨w.heap.size, 0, none⟩ = some (.int .u8 v) := cell_on1 hb1 (by simp [go_sem])
  have a1 : w1.cell? ⟨w.heap.size, 1, none⟩ = some (.int .u8 c) := cell_on1 hb1 (by simp [go_sem])
  have b0 : w1.cell? ⟨w.heap.size + 1, 0, none⟩ = some (.int .u8 x) := cell_on1 hb1 (by simp [go_sem])
  have b1 : w1.cell? ⟨w.heap.size + 1, 1, none⟩ = some (.int .u8 d) := cell_on1 hb1 (by simp [go_sem])
  have r0 : w1.cell? ⟨w.heap.size + 1 + 1, 0, none⟩ = some (.bool false) := cell_on1 hb1 (by simp [go_sem])
  have f0 : w1.frozen? ⟨w.heap.size + 1 + 1, 0, none⟩ = false := by rw [hb1.frozen (by simp)]; simp [go_sem]
  have hbw1 : Hid (Below w.heap.size w w1) := by show Below _ _ _; (repeat (first | assumption | exact Below.refl _ _ | refine Below.drew ?_ | refine bel_drewN ?_ _ | refine Below.setCell ?_ (by first | omega | (simp; done) | (simp; omega)) _ | refine Below.alloc ?_ (by first | omega | (simp; done) | (simp; omega)) _ | refine bel_of ?_ (by assumption)))
  have hz1 := hbw1.out.size
  clear hb1 hcal
  go_wp2_with (fail)
  refine (hcal2 _).mono ?_
  rintro e w2 ⟨rfl, hb2⟩
  have c0 := cell_on1 hb2 a0
  have c1 := cell_on1 hb2 a1
  have d0 := cell_on1 hb2 b0
  have d1 := cell_on1 hb2 b1
  have s0 := cell_on1 hb2 r0
  have t0 := frozen_on hb2 r0 f0
  have hbw2 : Hid (Below w.heap.size w w2) := hbw1.out.trans (hb2.mono hz1)
  have hz2 := hbw2.out.size
  clear hb2 a0 a1 b0 b1 r0 f0 hbw1 hcal2
  go_wp2_with (fail)
  refine (hmeet _).mono ?_
  rintro e w3 ⟨rfl, hb3⟩
  obtain ⟨W, hW⟩ : ∃ W, W = w3.alloc (.cells #[.int .u8 P, .int .u8 Q] 23) := ⟨_, rfl⟩
  have hb3W : Below w3.heap.size w3 W := by rw [hW]; exact (Below.refl _ _).alloc (Nat.le_refl _) _
  have a0 := cell_on1 hb3W (cell_on1 hb3 c0)
  have a1 := cell_on1 hb3W (cell_on1 hb3 c1)
  have b0 := cell_on1 hb3W (cell_on1 hb3 d0)
  have b1 := cell_on1 hb3W (cell_on1 hb3 d1)
  have r0 := cell_on1 hb3W (cell_on1 hb3 s0)
  have f0 := frozen_on hb3W (cell_on1 hb3 s0) (frozen_on hb3 s0 t0)
  have m0 : W.cell? ⟨w3.heap.size, 0, none⟩ = some (.int .u8 P) := by rw [hW]; simp [go_sem]
  have m1 : W.cell? ⟨w3.heap.size, 1, none⟩ = some (.int .u8 Q) := by rw [hW]; simp [go_sem]
  have hbW : Hid (Below w.heap.size w W) := (hbw2.out.trans (hb3.mono hz2)).trans (hb3W.mono (Nat.le_trans hz2 hb3.size))
  have hzW := hbW.out.size
  clear hb3 hb3W c0 c1 d0 d1 s0 t0 hbw2 hmeet hz1 hz2
  go_upto_region 4 with (fail)
  rw [← hW]
  clear hW
  go_cut [9] from 16 to 45 (fun s wx => s = .bool true ∧ Hid (Below W.heap.size W wx))
  case first =>
    as_aux_lemma =>
      cases B
      · have hn := HB.out.2 rfl
        cases ia
        · skip
          have kne : Nonempty (Kin W) := ⟨⟨_, Below.refl _ _⟩⟩
          have kc0 : ∀ y : Kin W, y.val.cell? ⟨w.heap.size, 0, none⟩ = some (.int .u8 v) := fun y => cell_on1 y.is a0
          have kc1 : ∀ y : Kin W, y.val.cell? ⟨w.heap.size, 1, none⟩ = some (.int .u8 c) := fun y => cell_on1 y.is a1
          have kc2 : ∀ y : Kin W, y.val.cell? ⟨w.heap.size + 1, 0, none⟩ = some (.int .u8 x) := fun y => cell_on1 y.is b0
          have kc3 : ∀ y : Kin W, y.val.cell? ⟨w.heap.size + 1, 1, none⟩ = some (.int .u8 d) := fun y => cell_on1 y.is b1
          have kc4 : ∀ y : Kin W, y.val.cell? ⟨w3.heap.size, 0, none⟩ = some (.int .u8 P) := fun y => cell_on1 y.is m0
          have kc5 : ∀ y : Kin W, y.val.cell? ⟨w3.heap.size, 1, none⟩ = some (.int .u8 Q) := fun y => cell_on1 y.is m1
          refine wp_region_kin W (Below.refl _ _) (by kernel_rfl) (by kernel_rfl) ?_
          repeat (go_big_quiet_step (first | (go_at_call_of 8 (Value.agg #[.int .u8 (v : Int), .int .u8 (c : Int)]); exact kin_call (hHa _)) | (go_at_call_of 8 (Value.agg #[.int .u8 (x : Int), .int .u8 (d : Int)]); exact kin_call (hHb _))))
          refine wpQuiet_nil ?_
          rintro wq ⟨⟨xq, hxq⟩, hyq⟩
          have hbq : Below W.heap.size W wq := by rw [hyq]; exact hxq
          clear hyq hxq xq kne kc0 kc1 kc2 kc3 kc4 kc5
          go_wp2_with (fail)
          go_meet
          case rel => exact ⟨rfl, hbq⟩
        · obtain rfl : ib = false := by simpa using hn
          have kne : Nonempty (Kin W) := ⟨⟨_, Below.refl _ _⟩⟩
          have kc0 : ∀ y : Kin W, y.val.cell? ⟨w.heap.size, 0, none⟩ = some (.int .u8 v) := fun y => cell_on1 y.is a0
          have kc1 : ∀ y : Kin W, y.val.cell? ⟨w.heap.size, 1, none⟩ = some (.int .u8 c) := fun y => cell_on1 y.is a1
          have kc2 : ∀ y : Kin W, y.val.cell? ⟨w.heap.size + 1, 0, none⟩ = some (.int .u8 x) := fun y => cell_on1 y.is b0
          have kc3 : ∀ y : Kin W, y.val.cell? ⟨w.heap.size + 1, 1, none⟩ = some (.int .u8 d) := fun y => cell_on1 y.is b1
          have kc4 : ∀ y : Kin W, y.val.cell? ⟨w3.heap.size, 0, none⟩ = some (.int .u8 P) := fun y => cell_on1 y.is m0
          have kc5 : ∀ y : Kin W, y.val.cell? ⟨w3.heap.size, 1, none⟩ = some (.int .u8 Q) := fun y => cell_on1 y.is m1
          refine wp_region_kin W (Below.refl _ _) (by kernel_rfl) (by kernel_rfl) ?_
          repeat (go_big_quiet_step (first | (go_at_call_of 8 (Value.agg #[.int .u8 (v : Int), .int .u8 (c : Int)]); exact kin_call (hHa _)) | (go_at_call_of 8 (Value.agg #[.int .u8 (x : Int), .int .u8 (d : Int)]); exact kin_call (hHb _))))
          refine wpQuiet_nil ?_
          rintro wq ⟨⟨xq, hxq⟩, hyq⟩
          have hbq : Below W.heap.size W wq := by rw [hyq]; exact hxq
          clear hyq hxq xq kne kc0 kc1 kc2 kc3 kc4 kc5
          go_wp2_with (fail)
          go_meet
          case rel => exact ⟨rfl, hbq⟩
      · have hn := HB.out.1 rfl
        cases ia
        · obtain rfl : hm = false := by simpa using hn
          clear hn
          have kne : Nonempty (Kin W) := ⟨⟨_, Below.refl _ _⟩⟩
          have kc0 : ∀ y : Kin W, y.val.cell? ⟨w.heap.size, 0, none⟩ = some (.int .u8 v) := fun y => cell_on1 y.is a0
          have kc1 : ∀ y : Kin W, y.val.cell? ⟨w.heap.size, 1, none⟩ = some (.int .u8 c) := fun y => cell_on1 y.is a1
          have kc2 : ∀ y : Kin W, y.val.cell? ⟨w.heap.size + 1, 0, none⟩ = some (.int .u8 x) := fun y => cell_on1 y.is b0
          have kc3 : ∀ y : Kin W, y.val.cell? ⟨w.heap.size + 1, 1, none⟩ = some (.int .u8 d) := fun y => cell_on1 y.is b1
          have kc4 : ∀ y : Kin W, y.val.cell? ⟨w3.heap.size, 0, none⟩ = some (.int .u8 P) := fun y => cell_on1 y.is m0
          have kc5 : ∀ y : Kin W, y.val.cell? ⟨w3.heap.size, 1, none⟩ = some (.int .u8 Q) := fun y => cell_on1 y.is m1
          refine wp_region_kin W (Below.refl _ _) (by kernel_rfl) (by kernel_rfl) ?_
          repeat (go_big_quiet_step (first | (go_at_call_of 8 (Value.agg #[.int .u8 (P : Int), .int .u8 (Q : Int)]); exact kin_call (hHm _)) | (go_at_call_of 8 (Value.agg #[.int .u8 (v : Int), .int .u8 (c : Int)]); exact kin_call (hHa _)) | (go_at_call_of 8 (Value.agg #[.int .u8 (x : Int), .int .u8 (d : Int)]); exact kin_call (hHb _))))
          refine wpQuiet_nil ?_
          rintro wq ⟨⟨xq, hxq⟩, hyq⟩
          have hbq : Below W.heap.size W wq := by rw [hyq]; exact hxq
          clear hyq hxq xq kne kc0 kc1 kc2 kc3 kc4 kc5
          go_wp2_with (fail)
          go_meet
          case rel => exact ⟨rfl, hbq⟩
        · obtain rfl : hm = ib := by simpa using hn
          clear hn
          cases hm
          · skip
            have kne : Nonempty (Kin W) := ⟨⟨_, Below.refl _ _⟩⟩
            have kc0 : ∀ y : Kin W, y.val.cell? ⟨w.heap.size, 0, none⟩ = some (.int .u8 v) := fun y => cell_on1 y.is a0
            have kc1 : ∀ y : Kin W, y.val.cell? ⟨w.heap.size, 1, none⟩ = some (.int .u8 c) := fun y => cell_on1 y.is a1
            have kc2 : ∀ y : Kin W, y.val.cell? ⟨w.heap.size + 1, 0, none⟩ = some (.int .u8 x) := fun y => cell_on1 y.is b0
            have kc3 : ∀ y : Kin W, y.val.cell? ⟨w.heap.size + 1, 1, none⟩ = some (.int .u8 d) := fun y => cell_on1 y.is b1
            have kc4 : ∀ y : Kin W, y.val.cell? ⟨w3.heap.size, 0, none⟩ = some (.int .u8 P) := fun y => cell_on1 y.is m0
            have kc5 : ∀ y : Kin W, y.val.cell? ⟨w3.heap.size, 1, none⟩ = some (.int .u8 Q) := fun y => cell_on1 y.is m1
            refine wp_region_kin W (Below.refl _ _) (by kernel_rfl) (by kernel_rfl) ?_
            repeat (go_big_quiet_step (first | (go_at_call_of 8 (Value.agg #[.int .u8 (P : Int), .int .u8 (Q : Int)]); exact kin_call (hHm _)) | (go_at_call_of 8 (Value.agg #[.int .u8 (v : Int), .int .u8 (c : Int)]); exact kin_call (hHa _)) | (go_at_call_of 8 (Value.agg #[.int .u8 (x : Int), .int .u8 (d : Int)]); exact kin_call (hHb _))))
            refine wpQuiet_nil ?_
            rintro wq ⟨⟨xq, hxq⟩, hyq⟩
            have hbq : Below W.heap.size W wq := by rw [hyq]; exact hxq
            clear hyq hxq xq kne kc0 kc1 kc2 kc3 kc4 kc5
            go_wp2_with (fail)
            go_meet
            case rel => exact ⟨rfl, hbq⟩
          · skip
            have kne : Nonempty (Kin W) := ⟨⟨_, Below.refl _ _⟩⟩
            have kc0 : ∀ y : Kin W, y.val.cell? ⟨w.heap.size, 0, none⟩ = some (.int .u8 v) := fun y => cell_on1 y.is a0
            have kc1 : ∀ y : Kin W, y.val.cell? ⟨w.heap.size, 1, none⟩ = some (.int .u8 c) := fun y => cell_on1 y.is a1
            have kc2 : ∀ y : Kin W, y.val.cell? ⟨w.heap.size + 1, 0, none⟩ = some (.int .u8 x) := fun y => cell_on1 y.is b0
            have kc3 : ∀ y : Kin W, y.val.cell? ⟨w.heap.size + 1, 1, none⟩ = some (.int .u8 d) := fun y => cell_on1 y.is b1
            have kc4 : ∀ y : Kin W, y.val.cell? ⟨w3.heap.size, 0, none⟩ = some (.int .u8 P) := fun y => cell_on1 y.is m0
            have kc5 : ∀ y : Kin W, y.val.cell? ⟨w3.heap.size, 1, none⟩ = some (.int .u8 Q) := fun y => cell_on1 y.is m1
            refine wp_region_kin W (Below.refl _ _) (by kernel_rfl) (by kernel_rfl) ?_
            repeat (go_big_quiet_step (first | (go_at_call_of 8 (Value.agg #[.int .u8 (P : Int), .int .u8 (Q : Int)]); exact kin_call (hHm _)) | (go_at_call_of 8 (Value.agg #[.int .u8 (v : Int), .int .u8 (c : Int)]); exact kin_call (hHa _)) | (go_at_call_of 8 (Value.agg #[.int .u8 (x : Int), .int .u8 (d : Int)]); exact kin_call (hHb _))))
            refine wpQuiet_nil ?_
            rintro wq ⟨⟨xq, hxq⟩, hyq⟩
            have hbq : Below W.heap.size W wq := by rw [hyq]; exact hxq
            clear hyq hxq xq kne kc0 kc1 kc2 kc3 kc4 kc5
            go_wp2_with (fail)
            go_meet
            case rel => exact ⟨rfl, hbq⟩
  case rest =>
    obtain ⟨rfl, hbc⟩ := hcut
    obtain ⟨w4, hw4⟩ : ∃ w4, w4 = wc := ⟨_, rfl⟩
    rw [← hw4] at hbc ⊢
    clear hw4
    have c0 := cell_on1 hbc.out a0
    have c1 := cell_on1 hbc.out a1
    have d0 := cell_on1 hbc.out b0
    have d1 := cell_on1 hbc.out b1
    have s0 := cell_on1 hbc.out r0
    have t0 := frozen_on hbc.out r0 f0
    have n0 := cell_on1 hbc.out m0
    have n1 := cell_on1 hbc.out m1
    have hb4 : Hid (Below w.heap.size w w4) := hbW.out.trans (hbc.out.mono hzW)
    have hz4 := hb4.out.size
    clear a0 a1 b0 b1 r0 f0 m0 m1 hbc hbW HB hHm hHa hHb
    go_upto_region 5 with (fail)
    go_cut [10] from 16 to 55 (fun s wx => s = .bool true ∧ Hid (Below w4.heap.size w4 wx))
    case first =>
      as_aux_lemma =>
        go_wp2_with (fail)
        refine (hWi _).mono ?_
        rintro e w5 ⟨rfl, hb5⟩
        have a0 := cell_on1 hb5 c0
        have a1 := cell_on1 hb5 c1
        have m0 := cell_on1 hb5 n0
        have m1 := cell_on1 hb5 n1
        have HB5 : Hid (Below w4.heap.size w4 w5) := hb5
        clear hb5 c0 c1 n0 n1
        cases B
        · obtain rfl : wi = false := by simpa using HW.out
          go_wp2_with (fail)
          go_meet
          case rel => exact ⟨rfl, HB5.out⟩
        · by_cases e1 : P = v
          · by_cases e2 : Q = c
            · obtain rfl : wi = true := by simpa [e1, e2] using HW.out
              subst e1 e2
              go_wp2_with (fail)
              go_meet
              case rel => exact ⟨by simp, HB5.out⟩
            · obtain rfl : wi = false := by simpa [e1, e2] using HW.out
              have e3 : ¬ ((Q : Nat) : Int) = ((c : Nat) : Int) := by omega
              go_wp2_with (fail)
              all_goals
                go_meet
                case rel => exact ⟨by simp [*], HB5.out⟩
          · obtain rfl : wi = false := by simpa [e1] using HW.out
            have e3 : ¬ ((P : Nat) : Int) = ((v : Nat) : Int) := by omega
            go_wp2_with (fail)
            all_goals
              go_meet
              case rel => exact ⟨by simp [*], HB5.out⟩
    case rest =>
      obtain ⟨rfl, hbc⟩ := hcut
      obtain ⟨w6, hw6⟩ : ∃ w6, w6 = wc := ⟨_, rfl⟩
      rw [← hw6] at hbc ⊢
      clear hw6
      have a0 := cell_on1 hbc.out c0
      have a1 := cell_on1 hbc.out c1
      have r0 := cell_on1 hbc.out s0
      have f0 := frozen_on hbc.out s0 t0
      have hb6 : Hid (Below w.heap.size w w6) := hb4.out.trans (hbc.out.mono hz4)
      have hz6 := hb6.out.size
      have hl6 : w.heap.size + 1 + 1 < w6.heap.size := World.block_lt_of_cell? _ _ r0
      clear c0 c1 d0 d1 s0 t0 n0 n1 hbc hb4 hz4 hWi HW
      go_wp2_with (fail)
      refine (all_any v c _).mono ?_
      rintro e w' ⟨rfl, hw⟩
      obtain rfl := hw
      have hnf := eq_nilFunc
      go_wp2_with (fail)
      refine (wpIn_wide (n := 9)).1 ?_
      refine range_top 61 14 rfl (n₀ := w6.heap.size + 1) (by simp) (all_stops 8 (by decide) w6.heap.size (w6.heap.size + 1) v c hv hc _ (by omega) (by first | (simp; done) | (simp; omega)) (by simp [go_sem]) (by simp [go_sem]))
        (fun pre W => (W.cell? ⟨w.heap.size, 0, none⟩ = some (.int .u8 (v : Int)) ∧ W.cell? ⟨w.heap.size, 1, none⟩ = some (.int .u8 (c : Int)) ∧ W.cell? ⟨w.heap.size + 1 + 1, 0, none⟩ = some (.bool false) ∧ W.frozen? ⟨w.heap.size + 1 + 1, 0, none⟩ = false ∧ W.cell? ⟨w6.heap.size + 1, 0, none⟩ = some (.int .i64 (pre.length : Int)) ∧ W.frozen? ⟨w6.heap.size + 1, 0, none⟩ = false ∧ W.cell? ⟨w6.heap.size + 1 + 1, 0, none⟩ = some (.int .i64 (lastF (-1) pre)) ∧ W.frozen? ⟨w6.heap.size + 1 + 1, 0, none⟩ = false) ∧ Below w.heap.size w W ∧ (((w6.alloc (.cells #[.int .u8 v, .int .u8 c] 23)).alloc (.cells #[.int .i64 0] 3)).alloc (.cells #[.int .i64 (-1)] 3)).heap.size ≤ W.heap.size ∧ goodF v c (-1) pre = true)
        (fun cd pre W => cd = .ret ∧ goodF v c (-1) pre = false)
        ?hI (fun c s A B row hs _ _ => hs) ?h0 ?assign ?body ?done ?stop
      case hI => exact OwnFrom.and (Own.from (fun s A B row hs hg hr => ⟨cell_kept hs.1 hg hr, cell_kept hs.2.1 hg hr, cell_kept hs.2.2.1 hg hr, (frozen_kept hs.2.2.1 hg hr).trans hs.2.2.2.1, cell_kept hs.2.2.2.2.1 hg hr, (frozen_kept hs.2.2.2.2.1 hg hr).trans hs.2.2.2.2.2.1, cell_kept hs.2.2.2.2.2.2.1 hg hr, (frozen_kept hs.2.2.2.2.2.2.1 hg hr).trans hs.2.2.2.2.2.2.2⟩) _) (OwnFrom.and (ownFrom_below (Nat.le_refl _) (by first | omega | (simp; done) | (simp; omega))) (fun _ _ _ _ hs hg _ => ⟨Nat.le_trans hs.1 hg.size, hs.2⟩))
      case h0 => exact ⟨⟨cell_alloc (cell_alloc (cell_alloc a0)), cell_alloc (cell_alloc (cell_alloc a1)), cell_alloc (cell_alloc (cell_alloc r0)), frozen_alloc (cell_alloc (cell_alloc r0)) (frozen_alloc (cell_alloc r0) (frozen_alloc r0 f0)), by simp [go_sem], by simp [go_sem], by simp [go_sem, lastF], by simp [go_sem]⟩, by have := hb6.out; (repeat (first | assumption | exact Below.refl _ _ | refine Below.drew ?_ | refine bel_drewN ?_ _ | refine Below.setCell ?_ (by first | omega | (simp; done) | (simp; omega)) _ | refine Below.alloc ?_ (by first | omega | (simp; done) | (simp; omega)) _ | refine bel_of ?_ (by assumption))), Nat.le_refl _, rfl⟩
      case assign =>
        intro l x W K hK
        simp only [List.setIfInBounds_toArray, List.set_cons_succ, List.set_cons_zero] at hK ⊢
        gi_wp2
        exact hK
      case stop =>
        rintro D c' pre W hD hpre ⟨rfl, hbad⟩ hK
        rw [pre_good hpre] at hbad; cases hbad
      case done =>
        rintro D ys W hD hys ⟨⟨i0, i1, i2, i3, i4, i5, i6, i7⟩, hbl, hzl, hgd⟩ hK
        have hlen : (ys.length : Int) = (C : Int) := by rw [hys, HL.out]
        rw [hlen] at i4
        have hzl2 := hbl.size
        clear hys hlen hgd HL hzl
        go_wp2_with (fail)
        refine (hcnt _).mono ?_
        rintro e w7 ⟨rfl, hb7⟩
        have j2 := cell_on1 hb7 i2
        have j3 := frozen_on hb7 i2 i3
        have j4 := cell_on1 hb7 i4
        have hK7 : w7.heap[D]? = some (.deferred (some [])) := (hb7.block D (Array.getElem?_eq_some_iff.1 hK).1).trans hK
        have hb7w : Hid (Below w.heap.size w w7) := hbl.trans (hb7.mono hzl2)
        have hz7 := hb7w.out.size
        clear i0 i1 i2 i3 i4 i5 i6 i7 hb7 hbl hK hcnt
        go_wp2_with (fail)
        refine (awakeM _).mono ?_
        rintro e w8 ⟨rfl, hb8⟩
        have k2 := cell_on1 hb8 j2
        have k3 := frozen_on hb8 j2 j3
        have k4 := cell_on1 hb8 j4
        have hK8 : w8.heap[D]? = some (.deferred (some [])) := (hb8.block D (Array.getElem?_eq_some_iff.1 hK7).1).trans hK7
        have hb8w : Hid (Below w.heap.size w w8) := hb7w.out.trans (hb8.mono hz7)
        have hC0d : decide ((0 : Int) < (C : Int)) = true := decide_eq_true hC0
        clear j2 j3 j4 hb8 hb7w hK7 hnf
        go_wp2
        have hK' := (KeepsOthers.setCell w8 ⟨w.heap.size + 1 + 1, 0, none⟩ (.bool true)).same D _ hK8 rfl
        refine ⟨by simp, .inl ⟨_, _, rfl, run_takeDeferred hK', ?_⟩⟩
        have hc5 := cell_kept (World.cell?_setCell_same' w8 ⟨w.heap.size + 1 + 1, 0, none⟩ (.bool true) (by rw [k2]; rfl)) (grownBy_putObj' _ D (.deferred none)) (fun r e => by cases e; exact ⟨_, hK', rfl⟩)
        refine ⟨.bool true, ?_, rfl, (hb8w.out.setCell (p := ⟨w.heap.size + 1 + 1, 0, none⟩) (by show w.heap.size ≤ w.heap.size + 1 + 1; omega) _).trans (belowK_b (w := w) (Nat.le_refl _) _ D _ _ (by simp at hD; omega) hK' rfl rfl)⟩
        simp [results, Try.results3, go_sem, hc5]
      case body =>
        rintro l pre ⟨px, hpx⟩ W hl hr ⟨⟨i0, i1, i2, i3, i4, i5, i6, i7⟩, hbl, hzl, hgd⟩ hN
        simp only [List.setIfInBounds_toArray, List.set_cons_succ, List.set_cons_zero]
        have hsz3 := hzl
        simp at hsz3
        obtain ⟨k, hk⟩ : ∃ k, k = pre.length := ⟨_, rfl⟩
        rw [← hk] at i4 hN
        have hkN : k < 256 := by have := HL.out; omega
        generalize hQ : ownPostG _ _ _ _ _ _ = Q'
        have hok : ∀ a' w5, Below W.heap.size W w5 → lastF (-1) pre < (px : Int) → hasM v c px = true → Q' .normal a' ((w5.setCell ⟨w6.heap.size + 1 + 1, 0, none⟩ (.int .i64 (px : Int))).setCell ⟨w6.heap.size + 1, 0, none⟩ (.int .i64 ((k : Int) + 1))) := by
          intro a' w5 hb5 hw he
          rw [← hQ]
          have j0 := cell_on1 hb5 i0
          have j1 := cell_on1 hb5 i1
          have j2 := cell_on1 hb5 i2
          have j3 := frozen_on hb5 i2 i3
          have j4 := cell_on1 hb5 i4
          have j5 := frozen_on hb5 i4 i5
          have j6 := cell_on1 hb5 i6
          have j7 := frozen_on hb5 i6 i7
          have hz5 := hb5.size
          have n1 : ¬ w.heap.size = w6.heap.size + 1 + 1 := by omega
          have n2 : ¬ w.heap.size = w6.heap.size + 1 := by omega
          have n3 : ¬ w.heap.size + 1 + 1 = w6.heap.size + 1 + 1 := by omega
          have n4 : ¬ w.heap.size + 1 + 1 = w6.heap.size + 1 := by omega
          have n5 : ¬ w6.heap.size + 1 = w6.heap.size + 1 + 1 := by omega
          have n6 : ¬ w6.heap.size + 1 + 1 = w6.heap.size + 1 := by omega
          refine ⟨(((KeepsOthers.of_grownBy (grown_of_below hb5) (fun j o e => by cases e)).trans (KeepsOthers.setCell _ _ _)).trans (KeepsOthers.setCell _ _ _)).from _, ?_, ⟨?_, ?_, ?_, ?_, ?_, ?_, ?_, ?_⟩, ?_, ?_, ?_⟩
          · exact ((hb5.mono (show w6.heap.size + 1 ≤ W.heap.size by omega)).setCell (by show w6.heap.size + 1 ≤ w6.heap.size + 1 + 1; omega) _).setCell (Nat.le_refl _) _
          · simp [go_sem, n1, n2, j0]
          · simp [go_sem, n1, n2, j1]
          · simp [go_sem, n3, n4, j2]
          · simp [go_sem, j3]
          · simp [go_sem, n5, j4, ← hk]
          · simp [go_sem, j5]
          · rw [lastF_snoc]; simp [go_sem, n6, j6]
          · simp [go_sem, j7]
          · exact ((hbl.trans (hb5.mono hbl.size)).setCell (by show w.heap.size ≤ w6.heap.size + 1 + 1; omega) _).setCell (by show w.heap.size ≤ w6.heap.size + 1; omega) _
          · simp [World.setCell]; omega
          · rw [goodF_snoc, hgd, decide_eq_true hw, he]; rfl
        have hbad : ∀ a' w5, Below W.heap.size W w5 → ¬ (lastF (-1) pre < (px : Int) ∧ hasM v c px = true) → Q' .ret a' (w5.setCell ⟨w.heap.size + 1 + 1, 0, none⟩ (.bool false)) := by
          intro a' w5 hb5 hne
          rw [← hQ]
          refine ⟨((KeepsOthers.of_grownBy (grown_of_below hb5) (fun j o e => by cases e)).trans (KeepsOthers.setCell _ _ _)).from _, rfl, ?_⟩
          rw [goodF_snoc, hgd, Bool.true_and]
          cases hh : (decide (lastF (-1) pre < (px : Int)) && hasM v c px)
          · rfl
          · rw [Bool.and_eq_true, decide_eq_true_eq] at hh
            exact absurd hh hne
        have hHx := fun V => hasC v c px V hpx hc
        obtain ⟨hb1, hb2⟩ := lastF_bd pre (-1) (by decide) (by decide)
        generalize lastF (-1) pre = la at *
        generalize hasM v c px = hb at *
        have hkb : (k : Int) ≤ 256 := by omega
        have hk0 : (0 : Int) ≤ (k : Int) := by omega
        have hxb : (px : Int) < 256 := by omega
        have hne1 : ¬ w6.heap.size + 1 = w6.heap.size + 1 + 1 := by omega
        have hne2 : ¬ w6.heap.size + 1 + 1 = w6.heap.size + 1 := by omega
        clear hQ hbl hzl hgd hk hN HL hcnt hnf hl hr hC0 hC1 hC2 hb6 hz6 hl6 a0 a1 r0 f0
        have TAC : True := trivial
        clear TAC
        by_cases hcmp : la < (px : Int)
        · have hd1 : decide ((px : Int) ≤ la) = false := decide_eq_false (by omega)
          have hd2 : ¬ (px : Int) ≤ la := by omega
          cases hb with
          | true =>
            have hok2 := fun a' w5 hb => hok a' w5 hb hcmp rfl
            clear hok hbad hcmp
            gi_wp2_with (refine ⟨trivial, ?_⟩; gi_at_call 8; refine (CallsIn.inRound l (callsIn_wide.2 (hHx _))).mono ?_; rintro e w5 ⟨rfl, hb5⟩; have j0 := cell_on1 hb5 i0; have j1 := cell_on1 hb5 i1; have j2 := cell_on1 hb5 i2; have j3 := frozen_on hb5 i2 i3; have j4 := cell_on1 hb5 i4; have j5 := frozen_on hb5 i4 i5; have j6 := cell_on1 hb5 i6; have j7 := frozen_on hb5 i6 i7; clear i0 i1 i2 i3 i4 i5 i6 i7 hHx)
            exact hb5
          | false =>
            have hbad2 := fun a' w5 hb => hbad a' w5 hb (fun h => by cases h.2)
            clear hok hbad hcmp
            gi_wp2_with (refine ⟨trivial, ?_⟩; gi_at_call 8; refine (CallsIn.inRound l (callsIn_wide.2 (hHx _))).mono ?_; rintro e w5 ⟨rfl, hb5⟩; have j0 := cell_on1 hb5 i0; have j1 := cell_on1 hb5 i1; have j2 := cell_on1 hb5 i2; have j3 := frozen_on hb5 i2 i3; have j4 := cell_on1 hb5 i4; have j5 := frozen_on hb5 i4 i5; have j6 := cell_on1 hb5 i6; have j7 := frozen_on hb5 i6 i7; clear i0 i1 i2 i3 i4 i5 i6 i7 hHx)
            exact hb5
        · have hd1 : decide ((px : Int) ≤ la) = true := decide_eq_true (by omega)
          have hd2 : (px : Int) ≤ la := by omega
          have hbad2 := fun a' => hbad a' W (Below.refl _ _) (fun h => hcmp h.1)
          clear hok hbad hcmp
          gi_wp2
          refine ⟨trivial, ?_⟩
          gi_wp2
          exact hbad2 _
theorem maskMeets_walk (v c : Nat) (hv : v < 256) (hc : c < 256) (x d : Nat) (hx : x < 256) (hd : d < 256) (p : Nat) (hp : p < 256) (w : World) :
    Calls Try.prog 3 #[.agg #[.int .u8 v, .int .u8 c], .agg #[.int .u8 x, .int .u8 d], .int .u8 p] w fun e w' => e = .returned (.bool true) ∧ Below w.heap.size w w' := by
  cases h : (okM v c && okM x d)
  · exact meets_bad v c hv hc x d hx hd p hp h w
  · rw [Bool.and_eq_true] at h
    exact meets_good v c hv hc x d hx hd p hp h.1 h.2 w

set_option maxRecDepth 100000 in
theorem maskMeets_lifted (os : Os) (started : os.Started) (H : Type) (enc : TypeId × Value → H) :
    ReturnsInHanded {} Try.checked os 3 .any (Rows.maskMeetsSpec.pre6 enc Try.prog Try.f3 Rows.maskMeetsRow.domain false) (Rows.maskMeetsSpec.post enc Try.prog Try.f3 false true false false) := by
  refine returnsInHanded_of_change (C := Try.checked) own started (by kernel_rfl) Try.func3
    (ChangeSpec.witness6 (enc := enc) (C := Try.checked) false ⟨#[], #[.agg #[.int .u8 0, .int .u8 0], .agg #[.int .u8 0, .int .u8 0], .int .u8 0], []⟩ 8 (by kernel_rfl) (by kernel_rfl) (by kernel_rfl) (by kernel_rfl)) ?_
  intro W base args ds gs before hval0 hW hcnd _
  have hval : ∀ (j : Nat) t v, Try.f3.params[j]? = some t → args[j]? = some v → Value.okWide Try.prog W .any base t v := hval0
  have hW' := hW
  obtain ⟨p, q, hA0, hV, rfl, hfz, hnd⟩ := hW
  have hA : DataW.TrodAll enc Try.prog W 0 (fun _ => true) true Try.f3.params.toList args.toList ds p := hA0
  rw [Try.params3] at hA hval
  obtain ⟨v0, vs0, d0, ds0, p0, q0, hargs, rfl, rfl, h0, r0⟩ := trodAll_cons hA
  obtain ⟨v1, vs1, d1, ds1, p1, q1, rfl, rfl, rfl, h1, r1⟩ := trodAll_cons r0
  obtain ⟨v2, vs2, d2, ds2, p2, q2, rfl, rfl, rfl, h2, r2⟩ := trodAll_cons r1
  obtain ⟨rfl, rfl, rfl⟩ := trodAll_nil r2
  obtain rfl : args = #[v0, v1, v2] := by cases args; simp_all
  obtain ⟨rfl, rfl⟩ := trodVars_none hV
  obtain ⟨a0, n0, rfl, rfl, rfl, w0, x0⟩ := open_mk (hval 0 23 v0 rfl rfl) h0
  obtain ⟨b0, rfl, t0⟩ := wf_u8 w0
  obtain ⟨c0, rfl, u0⟩ := wf_u8 x0
  obtain ⟨a1, n1, rfl, rfl, rfl, w1, x1⟩ := open_mk (hval 1 23 v1 rfl rfl) h1
  obtain ⟨b1, rfl, t1⟩ := wf_u8 w1
  obtain ⟨c1, rfl, u1⟩ := wf_u8 x1
  obtain ⟨a2, rfl, rfl, rfl, w2⟩ := open_int Try.underlying5 (hval 2 5 v2 rfl rfl) h2
  obtain ⟨b2, rfl, t2⟩ := wf_u8 w2
  clear hA0 hval0
  simp only [List.append_nil] at hW'
  refine (maskMeets_walk b0 c0 t0 u0 b1 c1 t1 u1 b2 t2 W ).mono fun e W' ⟨he, bel⟩ => ?_
  subst he
  exact ⟨_, rfl, _, _, _, [], _, [], hW', trodAll_mk1 (shut_bool Try.underlying4 _), (trodAll_cons_mk (shut_mk w0 x0) (trodAll_cons_mk (shut_mk w1 x1) (trodAll_cons_mk (shut_int Try.underlying5 w2) trodAll_mk0))), rfl, bel.frame _, fun h => by cases h⟩

/-- The given statement. -/
theorem maskMeets_holds : Rows.MaskMeetsSaid :=
  OpenClaim.holds_of_wide 3 Try.f3 rfl rfl rfl rfl rfl rfl rfl ⟨rfl, rfl, rfl, rfl, rfl⟩ rfl rfl rfl rfl rfl (by kernel_rfl) Try.func3 (by kernel_rfl)
    (of_decide_eq_true (by kernel_rfl)) (by unfold Func.isWrapper; first | (rw [if_pos (by decide +kernel)]; kernel_rfl) | (rw [if_neg (by decide +kernel)]; exact ⟨rfl, rfl⟩))
    (fun os started H enc _ => maskMeets_lifted os started H enc)
#print axioms maskMeets_holds
end Go.Proofs.Ytphfjhkbbodfaab
