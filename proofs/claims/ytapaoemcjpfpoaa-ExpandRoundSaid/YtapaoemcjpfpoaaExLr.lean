/-
  The law ExpandRound, out of what the functions of expand and of span hand back.
-/
import Derived.Test.YtapaoemcjpfpoaaExAw
import Derived.Test.YtapaoemcjpfpoaaExPlR
namespace Go.Proofs.Ytapaoemcjpfpoaa
open Go.RowKit
set_option linter.unusedVariables false
set_option linter.unusedSimpArgs false

set_option maxHeartbeats 1000000 in
theorem expandRound_no (lo hi q : Nat) (h : hi < lo)
    (c1 : ∀ W, Calls Try.prog 18 #[.agg #[.int .u16 lo, .int .u16 hi]] W fun e w' => ∃ v' : Value, e = .returned (.tuple #[v', .int .i64 30]) ∧ RowT w' W.heap.size v' [] ∧ Below W.heap.size W w')
    (c2 : ∀ W, Calls Try.prog 17 #[.agg #[.int .u16 lo, .int .u16 hi]] W fun e w' => e = .returned (.tuple #[.int .i64 0, .int .i64 30]) ∧ Below W.heap.size W w')
    (ca : ∀ W, Calls Try.prog 11 #[] W fun e w' => e = .returned (.bool true) ∧ Below W.heap.size W w') (w : World) :
    Calls Try.prog 7 #[.agg #[.int .u16 lo, .int .u16 hi], .int .u16 q] w fun e w' => e = .returned (.bool true) ∧ Below w.heap.size w w' := by
  have h' : (hi : Int) < (lo : Int) := by omega
  go_enter Try.func7, Try.ntmps7
  go_wp2_with (fail)
  refine (c1 _).mono ?_
  rintro e w1 ⟨v1, rfl, r1, hb1⟩
  have a0 : w1.cell? ⟨w.heap.size, 0, none⟩ = some (.int .u16 lo) := cell_on1 hb1 (by simp [go_sem])
  have a1 : w1.cell? ⟨w.heap.size, 1, none⟩ = some (.int .u16 hi) := cell_on1 hb1 (by simp [go_sem])
  have B1 : Hid (Below w.heap.size w w1) := ((Below.refl _ _).alloc (Nat.le_refl _) _).trans (hb1.mono (by simp))
  obtain ⟨ad1, cap1, rfl, _⟩ := r1.form
  clear r1 hb1 c1
  go_wp2_with (fail)
  refine (c2 _).mono ?_
  rintro e w2 ⟨rfl, hb2⟩
  have b0 := cell_on1 hb2 a0
  have b1 := cell_on1 hb2 a1
  have B2 : Hid (Below w.heap.size w w2) := B1.out.trans (hb2.mono B1.out.size)
  clear hb2 c2 a0 a1
  go_wp2_with (fail)
  refine (ca _).mono ?_
  rintro e w3 ⟨rfl, hb3⟩
  have B3 : Hid (Below w.heap.size w w3) := B2.out.trans (hb3.mono B2.out.size)
  clear hb3
  go_wp2
  go_ret
  exact ⟨rfl, B3.out⟩
theorem sum_step (L : List (Nat × Nat)) (k : Nat) (h : k < L.length) : ((L.take (k + 1)).map fun t => 2 ^ (16 - t.2)).sum = ((L.take k).map fun t => 2 ^ (16 - t.2)).sum + 2 ^ (16 - (L[k]).2) := by
  rw [take_snocT h, List.map_append, List.sum_append]; simp
theorem count_step (q : Nat) (L : List (Nat × Nat)) (k : Nat) (h : k < L.length) : (L.take (k + 1)).countP (hos q) = (L.take k).countP (hos q) + if hos q (L[k]) = true then 1 else 0 := by
  rw [take_snocT h, List.countP_append]; simp [List.countP_cons]
theorem sum_le (L : List (Nat × Nat)) (k : Nat) : ((L.take k).map fun t => 2 ^ (16 - t.2)).sum ≤ k * 65536 := by
  induction k generalizing L with
  | zero => simp
  | succ k ih =>
    cases L with
    | nil => simp
    | cons t L =>
      have h := ih L
      have h2 : 2 ^ (16 - t.2) ≤ 2 ^ 16 := pow_le (by omega)
      simp only [List.take_succ_cons, List.map_cons, List.sum_cons]
      omega
theorem count_le (q : Nat) (L : List (Nat × Nat)) (k : Nat) : (L.take k).countP (hos q) ≤ k := by
  have := List.countP_le_length (p := hos q) (l := L.take k)
  rw [List.length_take] at this
  omega
set_option maxRecDepth 20000 in
set_option maxHeartbeats 4000000 in
theorem expandRound_ok (lo hi q : Nat) (h : lo ≤ hi) (hh : hi < 65536) (hq : q < 65536) (L : List (Nat × Nat)) (hl1 : 1 ≤ L.length) (hl2 : L.length ≤ 30) (hF : ∀ t ∈ L, Fits lo hi t)
    (hCo : L.countP (hos q) = if hasB (lo, hi) q = true then 1 else 0) (hSu : (L.map fun t => 2 ^ (16 - t.2)).sum = cntS lo hi)
    (c1 : ∀ W, Calls Try.prog 18 #[.agg #[.int .u16 lo, .int .u16 hi]] W fun e w' => ∃ v' : Value, e = .returned (.tuple #[v', .int .i64 0]) ∧ RowT w' W.heap.size v' L ∧ Below W.heap.size W w')
    (c2 : ∀ W, Calls Try.prog 17 #[.agg #[.int .u16 lo, .int .u16 hi]] W fun e w' => e = .returned (.tuple #[.int .i64 ((L.length : Nat) : Int), .int .i64 0]) ∧ Below W.heap.size W w')
    (c3 : ∀ v W, SrcT W v (castT L) → Calls Try.prog 23 #[v] W fun e w' => ∃ v' : Value, e = .returned (.tuple #[v', .int .i64 0]) ∧ Row w' W.heap.size v' [(lo, hi)] ∧ Below W.heap.size W w')
    (c4 : ∀ v W, SrcT W v (castT L) → Calls Try.prog 27 #[v] W fun e w' => ∃ v' : Value, e = .returned (.tuple #[v', .int .i64 0]) ∧ RowT w' W.heap.size v' L ∧ Below W.heap.size W w')
    (hSpn : SpnC) (hHas : HasC)
    (ca : ∀ W, Calls Try.prog 11 #[] W fun e w' => e = .returned (.bool true) ∧ Below W.heap.size W w') (w : World) :
    Calls Try.prog 7 #[.agg #[.int .u16 lo, .int .u16 hi], .int .u16 q] w fun e w' => e = .returned (.bool true) ∧ Below w.heap.size w w' := by
  have h' : ¬ (hi : Int) < (lo : Int) := by omega
  have HF : Hid (∀ t ∈ L, Fits lo hi t) := hF
  have HCo : Hid (L.countP (hos q) = if hasB (lo, hi) q = true then 1 else 0) := hCo
  have HSu : Hid ((L.map fun t => 2 ^ (16 - t.2)).sum = cntS lo hi) := hSu
  clear hF hCo hSu
  go_enter Try.func7, Try.ntmps7
  go_wp2_with (fail)
  refine (c1 _).mono ?_
  rintro e w1 ⟨v1, rfl, r1, hb1⟩
  have a0 : w1.cell? ⟨w.heap.size, 0, none⟩ = some (.int .u16 lo) := cell_on1 hb1 (by simp [go_sem])
  have a1 : w1.cell? ⟨w.heap.size, 1, none⟩ = some (.int .u16 hi) := cell_on1 hb1 (by simp [go_sem])
  have hz1 := hb1.size
  simp at hz1
  have R1 : Hid (RowT w1 (w.heap.size + 1) v1 L) := by show RowT _ _ _ _; simpa using r1
  have B1 : Hid (Below w.heap.size w w1) := ((Below.refl _ _).alloc (Nat.le_refl _) _).trans (hb1.mono (by simp))
  obtain ⟨ad1, cap1, rfl, _⟩ := R1.out.form
  clear r1 hb1 c1
  go_wp2_with (fail)
  refine (c2 _).mono ?_
  rintro e w2 ⟨rfl, hb2⟩
  have b0 := cell_on1 hb2 a0
  have b1 := cell_on1 hb2 a1
  have R12 : Hid (RowT w2 (w.heap.size + 1) (.slice ad1 L.length cap1) L) := R1.out.on hb2
  have B2 : Hid (Below w.heap.size w w2) := B1.out.trans (hb2.mono B1.out.size)
  have hz2 := hb2.size
  clear hb2 c2 a0 a1 R1
  go_wp2_with (fail)
  refine (c3 _ _ R12.out.src).mono ?_
  rintro e w3 ⟨v3, rfl, r3, hb3⟩
  have a0 := cell_on1 hb3 b0
  have a1 := cell_on1 hb3 b1
  have R3 : Hid (Row w3 w2.heap.size v3 [(lo, hi)]) := r3
  have R13 : Hid (RowT w3 (w.heap.size + 1) (.slice ad1 L.length cap1) L) := R12.out.on hb3
  have B3 : Hid (Below w.heap.size w w3) := B2.out.trans (hb3.mono B2.out.size)
  have hz3 := hb3.size
  obtain ⟨ad3, cap3, rfl, _, hat3⟩ := R3.out.form
  obtain ⟨g3, rfl, _, hg3, hc3⟩ := hat3 (by simp)
  obtain ⟨k0, k1⟩ := hc3 0 (by simp)
  simp only [List.getElem_cons_zero, Nat.zero_mul, Nat.zero_add, List.length_cons, List.length_nil] at k0 k1
  clear r3 hb3 b0 b1 hat3 hc3 R12 c3
  go_wp2_with (fail)
  refine (c4 _ _ R13.out.src).mono ?_
  rintro e w4 ⟨v4, rfl, r4, hb4⟩
  have b0 := cell_on1 hb4 a0
  have b1 := cell_on1 hb4 a1
  have l0 := cell_on1 hb4 k0
  have l1 := cell_on1 hb4 k1
  have R4 : Hid (RowT w4 w3.heap.size v4 L) := r4
  have R14 : Hid (RowT w4 (w.heap.size + 1) (.slice ad1 L.length cap1) L) := R13.out.on hb4
  have B4 : Hid (Below w.heap.size w w4) := B3.out.trans (hb4.mono B3.out.size)
  have hz4 := hb4.size
  obtain ⟨ad1', cap1', e1, _, hat⟩ := R14.out.form
  cases e1
  have HAT := hat (by omega)
  obtain ⟨g, rfl, _, hgw, hcell⟩ := HAT
  clear r4 hb4 a0 a1 k0 k1 R13 R3 hat c4
  go_wp2_with (fail)
  go_loopw [13, 14, 15, 16, 17] (fun iv pv kv _ _ wr => ∃ k : Nat, k ≤ L.length ∧ kv = .int .i64 k ∧ iv = .int .i64 (((L.take k).countP (hos q) : Nat) : Int) ∧ pv = .int .i64 ((((L.take k).map fun t => 2 ^ (16 - t.2)).sum : Nat) : Int) ∧ Hid (Below w4.heap.size w4 wr)) (fun _ _ kv _ _ _ => L.length - (intOf kv).toNat)
  case atStart => exact ⟨0, Nat.zero_le _, rfl, rfl, rfl, Below.refl _ _⟩
  case round =>
    obtain ⟨k, hk, rfl, rfl, rfl, hbw⟩ := hrel
    have hzr := hbw.out.size
    have a0 := cell_on1 hbw.out b0
    have a1 := cell_on1 hbw.out b1
    by_cases hlt : k < L.length
    · have hlt' : (k : Int) < ((L.length : Nat) : Int) := by omega
      have hk0 : (0 : Int) ≤ (k : Int) := by omega
      obtain ⟨t, ht⟩ : ∃ t, t = L[k] := ⟨_, rfl⟩
      have hmem : t ∈ L := by rw [ht]; exact List.getElem_mem _
      obtain ⟨q0, q1⟩ := hcell k hlt
      rw [← ht] at q0 q1
      have x0 := cell_on1 hbw.out q0
      have x1 := cell_on1 hbw.out q1
      obtain ⟨fb, fm, fw, fc, fh⟩ := HF.out t hmem
      have HC : Hid ((L.take (k + 1)).countP (hos q) = (L.take k).countP (hos q) + if hos q t = true then 1 else 0) := by show _ = _; rw [count_step q L k hlt, ht]
      have HS : Hid (((L.take (k + 1)).map fun t => 2 ^ (16 - t.2)).sum = ((L.take k).map fun t => 2 ^ (16 - t.2)).sum + 2 ^ (16 - t.2)) := by show _ = _; rw [sum_step L k hlt, ht]
      have HCL : Hid ((L.take k).countP (hos q) ≤ k) := count_le q L k
      have HSL : Hid (((L.take k).map fun t => 2 ^ (16 - t.2)).sum ≤ k * 65536) := sum_le L k
      have hk30 : (k : Int) < 30 := by omega
      obtain ⟨tb, tn⟩ := t
      simp only at x0 x1 fb fm fw fc fh HC HS
      have ftop := topT_lt fb fm
      have cS := fun W => hSpn tb tn W fb fm
      have cC := fun W => countS tb (topT tb (tn : Int)) W fb ftop.1
      have cW := fun W => withinS tb (topT tb (tn : Int)) lo hi W
      have cH := fun W => hHas tb tn q W fb hq
      rw [fc] at cC
      rw [fw] at cW
      rw [fh q] at cH
      have h2 : Hid (2 ^ (16 - tn) ≤ 2 ^ 16) := pow_le (by omega)
      generalize 2 ^ (16 - tn) = z at cC HS h2
      generalize hos q (tb, tn) = ih at cH HC
      generalize (L.take k).countP (hos q) = C at HC HCL ⊢
      generalize ((L.take k).map fun t => 2 ^ (16 - t.2)).sum = P at HS HSL ⊢
      generalize topT tb (tn : Int) = tp at cS cC cW
      clear hcell q0 q1 ht hmem fb fm fw fc fh ftop HF hSpn hHas b0 b1 l0 l1 R4 R14 HCo HSu
      go_wp2_with (fail)
      refine (cS _).mono ?_
      rintro e w5 ⟨rfl, hb5⟩
      have y0 := cell_on1 hb5 x0
      have y1 := cell_on1 hb5 x1
      have d0 := cell_on1 hb5 a0
      have d1 := cell_on1 hb5 a1
      have B5 : Hid (Below w4.heap.size w4 w5) := hbw.out.trans (hb5.mono hzr)
      have hz5 := B5.out.size
      clear hb5 x0 x1 a0 a1 hbw cS
      go_wp2_with (fail)
      refine (cC _).mono ?_
      rintro e w6 ⟨rfl, hb6⟩
      have x0 := cell_on1 hb6 (cell_allocT y0)
      have x1 := cell_on1 hb6 (cell_allocT y1)
      have a0 := cell_on1 hb6 (cell_allocT d0)
      have a1 := cell_on1 hb6 (cell_allocT d1)
      have s0 : w6.cell? ⟨w5.heap.size, 0, none⟩ = some (.int .u16 tb) := cell_on1 hb6 (by simp [go_sem])
      have s1 : w6.cell? ⟨w5.heap.size, 1, none⟩ = some (.int .u16 tp) := cell_on1 hb6 (by simp [go_sem])
      have B6 : Hid (Below w4.heap.size w4 w6) := (B5.out.alloc (by omega) _).trans (hb6.mono (by simp; omega))
      have hz6 := B6.out.size
      clear hb6 y0 y1 d0 d1 B5 cC
      go_wp2_with (fail)
      refine (cW _).mono ?_
      rintro e w7 ⟨rfl, hb7⟩
      have y0 := cell_on1 hb7 x0
      have y1 := cell_on1 hb7 x1
      have B7 : Hid (Below w4.heap.size w4 w7) := B6.out.trans (hb7.mono hz6)
      have hz7 := B7.out.size
      clear hb7 x0 x1 a0 a1 s0 s1 B6 cW
      go_wp2_with (fail)
      refine (cH _).mono ?_
      rintro e w8 ⟨rfl, hb8⟩
      have B8 : Hid (Below w4.heap.size w4 w8) := B7.out.trans (hb8.mono hz7)
      clear hb8 y0 y1 B7 cH
      cases ih
      · go_wp2_with (fail)
        go_roundw
        case rel => exact ⟨k + 1, by omega, by go_num, by rw [HC.out]; simp, by have := HSL.out; have := h2.out; rw [HS.out]; simp [wrap64]; omega, B8.out⟩
        case measure => simp [intOf]; omega
      · go_wp2_with (fail)
        go_roundw
        case rel => exact ⟨k + 1, by omega, by go_num, by have := HCL.out; rw [HC.out]; simp [wrap64]; omega, by have := HSL.out; have := h2.out; rw [HS.out]; simp [wrap64]; omega, B8.out⟩
        case measure => simp [intOf]; omega
    · obtain rfl : k = L.length := by omega
      rw [List.take_length]
      have m0 := cell_on1 hbw.out l0
      have m1 := cell_on1 hbw.out l1
      have B5 : Hid (Below w.heap.size w wr) := B4.out.trans (hbw.out.mono B4.out.size)
      have S1 : Hid (SrcT wr v4 (castT L)) := (R4.out.on hbw.out).src
      have S2 : Hid (SrcT wr (.slice (some ⟨g, 0, none⟩) L.length cap1) (castT L)) := (R14.out.on hbw.out).src
      have cS := fun W (x : SrcT W v4 (castT L)) (y : SrcT W (.slice (some ⟨g, 0, none⟩) L.length cap1) (castT L)) => sameT (castT L) (by rw [castT_length]; omega) _ _ W x y
      have cC := fun W => countS lo hi W (by omega) hh
      have cH := fun W => hasS lo hi q W
      have hCo := HCo.out
      have hSu := HSu.out
      rw [hSu]
      generalize cntS lo hi = pc at cC ⊢
      have e1 : decide ((1 : Int) ≤ ((L.length : Nat) : Int)) = true := decide_eq_true (by omega)
      have e2 : decide (((L.length : Nat) : Int) ≤ 30) = true := decide_eq_true (by omega)
      obtain ⟨ad4, cap4, rfl, _⟩ := R4.out.form
      clear hSu HSu HCo HF hSpn hHas hbw R4 R14 b0 b1 l0 l1 hcell
      cases hb : hasB (lo, hi) q
      · rw [hb] at cH hCo
        simp only [Bool.false_eq_true, if_false] at hCo
        rw [hCo]
        clear hCo hb
        go_wp2_with (fail)
        have kne : Nonempty (Kin (wr)) := ⟨⟨_, Below.refl _ _⟩⟩
        have kc0 : ∀ y : Kin (wr), y.val.cell? ⟨w.heap.size, 0, none⟩ = some (.int .u16 lo) := fun y => by rw [kin_cell (by first | omega | (simp <;> omega))]; first | assumption | (simp [go_sem]; done) | simp [go_sem, *]
        have kc1 : ∀ y : Kin (wr), y.val.cell? ⟨w.heap.size, 1, none⟩ = some (.int .u16 hi) := fun y => by rw [kin_cell (by first | omega | (simp <;> omega))]; first | assumption | (simp [go_sem]; done) | simp [go_sem, *]
        have kc2 : ∀ y : Kin (wr), y.val.cell? ⟨g3, 0, none⟩ = some (.int .u16 lo) := fun y => by rw [kin_cell (by first | omega | (simp <;> omega))]; first | assumption | (simp [go_sem]; done) | simp [go_sem, *]
        have kc3 : ∀ y : Kin (wr), y.val.cell? ⟨g3, 1, none⟩ = some (.int .u16 hi) := fun y => by rw [kin_cell (by first | omega | (simp <;> omega))]; first | assumption | (simp [go_sem]; done) | simp [go_sem, *]
        refine wp_region_kin (wr) (Below.refl _ _) (by kernel_rfl) (by kernel_rfl) ?_
        repeat (go_big_quiet_step (first | (go_at_call 11; exact kin_call (ca _)) | (go_at_call 19; exact kin_call (cS _ (SrcT.keep S1.out (Kin.is _)) (SrcT.keep S2.out (Kin.is _)))) | (go_at_call 28; exact kin_call (cC _)) | (go_at_call 30; exact kin_call (cH _))))
        refine wpQuiet_nil ?_
        rintro wq ⟨⟨xq, hxq⟩, hyq⟩
        have hq : Below (wr).heap.size (wr) wq := by rw [hyq]; exact hxq
        clear hyq hxq xq
        clear kne kc0 kc1 kc2 kc3
        obtain ⟨hcq, hfq⟩ := bcell hq
        have hzq := hq.size
        try simp at hzq
        go_wp2
        go_ret
        exact ⟨rfl, B5.out.trans (hq.mono B5.out.size)⟩
      · rw [hb] at cH hCo
        simp only [if_true] at hCo
        rw [hCo]
        clear hCo hb
        go_wp2_with (fail)
        have kne : Nonempty (Kin (wr)) := ⟨⟨_, Below.refl _ _⟩⟩
        have kc0 : ∀ y : Kin (wr), y.val.cell? ⟨w.heap.size, 0, none⟩ = some (.int .u16 lo) := fun y => by rw [kin_cell (by first | omega | (simp <;> omega))]; first | assumption | (simp [go_sem]; done) | simp [go_sem, *]
        have kc1 : ∀ y : Kin (wr), y.val.cell? ⟨w.heap.size, 1, none⟩ = some (.int .u16 hi) := fun y => by rw [kin_cell (by first | omega | (simp <;> omega))]; first | assumption | (simp [go_sem]; done) | simp [go_sem, *]
        have kc2 : ∀ y : Kin (wr), y.val.cell? ⟨g3, 0, none⟩ = some (.int .u16 lo) := fun y => by rw [kin_cell (by first | omega | (simp <;> omega))]; first | assumption | (simp [go_sem]; done) | simp [go_sem, *]
        have kc3 : ∀ y : Kin (wr), y.val.cell? ⟨g3, 1, none⟩ = some (.int .u16 hi) := fun y => by rw [kin_cell (by first | omega | (simp <;> omega))]; first | assumption | (simp [go_sem]; done) | simp [go_sem, *]
        refine wp_region_kin (wr) (Below.refl _ _) (by kernel_rfl) (by kernel_rfl) ?_
        repeat (go_big_quiet_step (first | (go_at_call 11; exact kin_call (ca _)) | (go_at_call 19; exact kin_call (cS _ (SrcT.keep S1.out (Kin.is _)) (SrcT.keep S2.out (Kin.is _)))) | (go_at_call 28; exact kin_call (cC _)) | (go_at_call 30; exact kin_call (cH _))))
        refine wpQuiet_nil ?_
        rintro wq ⟨⟨xq, hxq⟩, hyq⟩
        have hq : Below (wr).heap.size (wr) wq := by rw [hyq]; exact hxq
        clear hyq hxq xq
        clear kne kc0 kc1 kc2 kc3
        obtain ⟨hcq, hfq⟩ := bcell hq
        have hzq := hq.size
        try simp at hzq
        go_wp2
        go_ret
        exact ⟨rfl, B5.out.trans (hq.mono B5.out.size)⟩
theorem expandRound_core (hOfN : OfN) (hOf : OfC) (hCntN : CntN) (hCnt : CntC) (hBack : BackC) (hLst : LstC) (hSpn : SpnC) (hHas : HasC)
    (ca : ∀ W, Calls Try.prog 11 #[] W fun e w' => e = .returned (.bool true) ∧ Below W.heap.size W w') (lo hi : Nat) (hlo : lo < 65536) (hhi : hi < 65536) (q : Nat) (hq : q < 65536) (w : World) :
    Calls Try.prog 7 #[.agg #[.int .u16 lo, .int .u16 hi], .int .u16 q] w fun e w' => e = .returned (.bool true) ∧ Below w.heap.size w w' := by
  by_cases h : lo ≤ hi
  · have hln := ofS_len (lo := lo) (hi := hi)
    have hlc : (castT (tl (hasB (lo, hi)) 16 0)).length ≤ 1048576 := by rw [castT_length]; omega
    refine expandRound_ok lo hi q h hhi hq _ (ofS_pos h hhi) hln (ofS_fits h hhi) (ofS_count q hq) (ofS_sum h hhi) (fun W => hOf lo hi W h hhi) (fun W => hCnt lo hi W h hhi)
      (fun v W hs => ?_) (fun v W hs => ?_) hSpn hHas ca w
    · have := hBack _ v W hs hlc (ofS_ok h hhi).2 (ofS_ok h hhi).1
      rw [ofS_back h hhi] at this
      exact this
    · have := hLst _ v W hs hlc (ofS_ok h hhi).2 (ofS_ok h hhi).1
      rw [ofS_least h hhi] at this
      exact this
  · exact expandRound_no lo hi q (by omega) (fun W => hOfN lo hi W hlo (by omega)) (fun W => hCntN lo hi W hlo (by omega)) ca w
end Go.Proofs.Ytapaoemcjpfpoaa
