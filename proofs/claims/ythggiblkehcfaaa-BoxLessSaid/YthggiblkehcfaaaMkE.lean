/-
  Less of the document's answer.
-/
import Derived.Test.YthggiblkehcfaaaMkL
import Derived.Test.YthggiblkehcfaaaMkD
import Derived.Deep.RegionWith
import Derived.Deep.DeepCutAuto
namespace Go.Proofs.Ythggiblkehcfaaa
open Go.RowKit
set_option linter.unusedVariables false
set_option linter.unusedSimpArgs false

theorem Below.setFar {B : Nat} {W w : World} (h : Below B W w) {g i : Nat} (hg : B ≤ g) (u : Value) : Below B W (w.setCell ⟨g, i, none⟩ u) := h.setCell hg u
theorem u8_wrap {z : Int} (h0 : 0 ≤ z) (h1 : z < 256) : IntKind.u8.wrap z = z := by
  simp [IntKind.wrap, IntKind.signed, IntKind.bits]
  omega
/-- The loop's own memory: the piece at X, what is left over at B, the row of pieces, all else as in W. -/
structure Mem (W wx : World) (B X : Nat) (pv : Value) (l : List (Nat × Nat)) (xv xc av ac : Int) : Prop where
  x0 : wx.cell? ⟨X, 0, none⟩ = some (.int .u8 xv)
  x1 : wx.cell? ⟨X, 1, none⟩ = some (.int .u8 xc)
  fx : ∀ i, wx.frozen? ⟨X, i, none⟩ = false
  o0 : wx.cell? ⟨B, 0, none⟩ = some (.int .u8 av)
  o1 : wx.cell? ⟨B, 1, none⟩ = some (.int .u8 ac)
  fo : ∀ i, wx.frozen? ⟨B, i, none⟩ = false
  row : Row wx (B + 1) pv l
  own : some X ≠ pv.ownBlock
  bel : Below B W wx
  gt : B < X
  sz : X < wx.heap.size
theorem Mem.drew {W wx : World} {B X : Nat} {pv : Value} {l : List (Nat × Nat)} {xv xc av ac : Int} (h : Mem W wx B X pv l xv xc av ac) : Mem W wx.drew B X pv l xv xc av ac :=
  ⟨h.x0, h.x1, h.fx, h.o0, h.o1, h.fo, h.row, h.own, h.bel.drew, h.gt, h.sz⟩
theorem Row.putX {w : World} {b : Nat} {v : Value} {l : List (Nat × Nat)} (h : Row w b v l) {g i : Nat} (hg : some g ≠ v.ownBlock) (u : Value) : Row (w.setCell ⟨g, i, none⟩ u) b v l := by
  refine ⟨h.1, ?_⟩
  rcases h.2 with h2 | ⟨g', cap, cur, hv, hb, hh, r⟩
  · exact .inl h2
  · refine .inr ⟨g', cap, cur, hv, hb, ?_, r⟩
    rw [Below.heap_setCell _ _ _ _ (by intro e; apply hg; subst hv; simp [Value.ownBlock, e])]
    exact hh
theorem frozen_set {w : World} {a b : Addr} {u : Value} : (w.setCell a u).frozen? b = w.frozen? b := by simp [go_sem]
theorem Mem.setX0 {W wx : World} {B X : Nat} {pv : Value} {l : List (Nat × Nat)} {xv xc av ac : Int} (h : Mem W wx B X pv l xv xc av ac) (z : Int) : Mem W (wx.setCell ⟨X, 0, none⟩ (.int .u8 z)) B X pv l z xc av ac := by
  have hgt := h.gt
  have n1 : ¬ X = B := by omega
  have n2 : ¬ B = X := by omega
  have x0 := h.x0; have x1 := h.x1; have o0 := h.o0; have o1 := h.o1; have fx := h.fx; have fo := h.fo
  exact ⟨by simp [go_sem, *], by simp [go_sem, *], fun i => by rw [frozen_set]; exact fx i, by simp [go_sem, *], by simp [go_sem, *], fun i => by rw [frozen_set]; exact fo i, h.row.putX h.own _, h.own, h.bel.setCell (Nat.le_of_lt hgt) _, hgt, by have := h.sz; simpa [World.setCell] using this⟩
theorem Mem.setX1 {W wx : World} {B X : Nat} {pv : Value} {l : List (Nat × Nat)} {xv xc av ac : Int} (h : Mem W wx B X pv l xv xc av ac) (z : Int) : Mem W (wx.setCell ⟨X, 1, none⟩ (.int .u8 z)) B X pv l xv z av ac := by
  have hgt := h.gt
  have n1 : ¬ X = B := by omega
  have n2 : ¬ B = X := by omega
  have x0 := h.x0; have x1 := h.x1; have o0 := h.o0; have o1 := h.o1; have fx := h.fx; have fo := h.fo
  exact ⟨by simp [go_sem, *], by simp [go_sem, *], fun i => by rw [frozen_set]; exact fx i, by simp [go_sem, *], by simp [go_sem, *], fun i => by rw [frozen_set]; exact fo i, h.row.putX h.own _, h.own, h.bel.setCell (Nat.le_of_lt hgt) _, hgt, by have := h.sz; simpa [World.setCell] using this⟩
theorem Mem.setA0 {W wx : World} {B X : Nat} {pv : Value} {l : List (Nat × Nat)} {xv xc av ac : Int} (h : Mem W wx B X pv l xv xc av ac) (z : Int) : Mem W (wx.setCell ⟨B, 0, none⟩ (.int .u8 z)) B X pv l xv xc z ac := by
  have hgt := h.gt
  have n1 : ¬ X = B := by omega
  have n2 : ¬ B = X := by omega
  have x0 := h.x0; have x1 := h.x1; have o0 := h.o0; have o1 := h.o1; have fx := h.fx; have fo := h.fo
  exact ⟨by simp [go_sem, *], by simp [go_sem, *], fun i => by rw [frozen_set]; exact fx i, by simp [go_sem, *], by simp [go_sem, *], fun i => by rw [frozen_set]; exact fo i, h.row.put (Nat.lt_succ_self _) _, h.own, h.bel.setCell (Nat.le_refl _) _, hgt, by have := h.sz; simpa [World.setCell] using this⟩
theorem Mem.setA1 {W wx : World} {B X : Nat} {pv : Value} {l : List (Nat × Nat)} {xv xc av ac : Int} (h : Mem W wx B X pv l xv xc av ac) (z : Int) : Mem W (wx.setCell ⟨B, 1, none⟩ (.int .u8 z)) B X pv l xv xc av z := by
  have hgt := h.gt
  have n1 : ¬ X = B := by omega
  have n2 : ¬ B = X := by omega
  have x0 := h.x0; have x1 := h.x1; have o0 := h.o0; have o1 := h.o1; have fx := h.fx; have fo := h.fo
  exact ⟨by simp [go_sem, *], by simp [go_sem, *], fun i => by rw [frozen_set]; exact fx i, by simp [go_sem, *], by simp [go_sem, *], fun i => by rw [frozen_set]; exact fo i, h.row.put (Nat.lt_succ_self _) _, h.own, h.bel.setCell (Nat.le_refl _) _, hgt, by have := h.sz; simpa [World.setCell] using this⟩
/-- A new piece: a copy of what is left over. -/
theorem Mem.new {W wr : World} {B : Nat} {pv : Value} {l : List (Nat × Nat)} {av ac : Int} (o0 : wr.cell? ⟨B, 0, none⟩ = some (.int .u8 av)) (o1 : wr.cell? ⟨B, 1, none⟩ = some (.int .u8 ac)) (fo : ∀ i, wr.frozen? ⟨B, i, none⟩ = false)
    (row : Row wr (B + 1) pv l) (bel : Below B W wr) : Mem W (wr.alloc (.cells #[.int .u8 av, .int .u8 ac] 31)) B wr.heap.size pv l av ac av ac := by
  have hB : B < wr.heap.size := World.block_lt_of_cell? _ _ o0
  have hb : Below wr.heap.size wr (wr.alloc (.cells #[.int .u8 av, .int .u8 ac] 31)) := (Below.refl _ _).alloc (Nat.le_refl _) _
  refine ⟨by simp [go_sem], by simp [go_sem], fun i => by simp [go_sem], cell_on1 hb o0, cell_on1 hb o1, fun i => by rw [hb.frozen (p := ⟨B, i, none⟩) hB]; exact fo i, row.alloc _, fun e => ?_, bel.alloc (by omega) _, hB, by simp⟩
  have := (row.lt _ e.symm).2
  omega
theorem rless_bad (v c x d : Nat) (w : World) (hv : v < 256) (hc : c < 256) (hx : x < 256) (hd : d < 256) (ho : (okM v c && okM x d) = false) :
    Calls Try.prog 35 #[.agg #[.int .u8 v, .int .u8 c], .agg #[.int .u8 x, .int .u8 d]] w fun e w' => ∃ v' : Value, e = .returned v' ∧ Row w' w.heap.size v' (lessM v c x d) ∧ Below w.heap.size w w' := by
  have hcal := fun W => rcheckM v c W hv hc
  have hcal2 := fun W => rcheckM x d W hx hd
  have HE : Hid (lessM v c x d = []) := lessM_bad ho
  go_enter Try.func35, Try.ntmps35
  go_wp2_with (fail)
  refine (hcal _).mono ?_
  rintro e w1 ⟨rfl, hb1⟩
  have b0 : w1.cell? ⟨w.heap.size + 1, 0, none⟩ = some (.int .u8 x) := cell_on1 hb1 (by simp [go_sem])
  have b1 : w1.cell? ⟨w.heap.size + 1, 1, none⟩ = some (.int .u8 d) := cell_on1 hb1 (by simp [go_sem])
  have hbw : Hid (Below w.heap.size w w1) := by show Below _ _ _; (repeat (first | assumption | exact Below.refl _ _ | refine Below.drew ?_ | refine bel_drewN ?_ _ | refine Below.setCell ?_ (by first | omega | (simp; done) | (simp; omega)) _ | refine Below.alloc ?_ (by first | omega | (simp; done) | (simp; omega)) _ | refine bel_of ?_ (by assumption)))
  have hz := hbw.out.size
  clear hb1 hcal
  cases h1 : okM v c
  · rw [chk_no h1]
    go_wp2_with (fail)
    go_ret
    exact ⟨_, rfl, by rw [HE.out]; exact Row.nil _ _, hbw.out⟩
  · rw [chk_ok h1]
    rw [h1, Bool.true_and] at ho
    rw [chk_no ho] at hcal2
    go_wp2_with (fail)
    refine (hcal2 _).mono ?_
    rintro e w2 ⟨rfl, hb2⟩
    have hbw2 : Hid (Below w.heap.size w w2) := hbw.out.trans (hb2.mono hz)
    clear hb2 hcal2
    go_wp2_with (fail)
    go_ret
    exact ⟨_, rfl, by rw [HE.out]; exact Row.nil _ _, hbw2.out⟩
set_option maxRecDepth 20000 in
set_option maxHeartbeats 8000000 in
theorem rless_ok (v c x d : Nat) (w : World) (hv : v < 256) (hc : c < 256) (hx : x < 256) (hd : d < 256) (h1 : okM v c = true) (h2 : okM x d = true) :
    Calls Try.prog 35 #[.agg #[.int .u8 v, .int .u8 c], .agg #[.int .u8 x, .int .u8 d]] w fun e w' => ∃ v' : Value, e = .returned v' ∧ Row w' w.heap.size v' (lessM v c x d) ∧ Below w.heap.size w w' := by
  have hcal := fun W => rcheckM v c W hv hc
  have hcal2 := fun W => rcheckM x d W hx hd
  rw [chk_ok h1] at hcal
  rw [chk_ok h2] at hcal2
  go_enter Try.func35, Try.ntmps35
  go_wp2_with (fail)
  refine (hcal _).mono ?_
  rintro e w1 ⟨rfl, hb1⟩
  have a0 : w1.cell? ⟨w.heap.size, 0, none⟩ = some (.int .u8 v) := cell_on1 hb1 (by simp [go_sem])
  have a1 : w1.cell? ⟨w.heap.size, 1, none⟩ = some (.int .u8 c) := cell_on1 hb1 (by simp [go_sem])
  have b0 : w1.cell? ⟨w.heap.size + 1, 0, none⟩ = some (.int .u8 x) := cell_on1 hb1 (by simp [go_sem])
  have b1 : w1.cell? ⟨w.heap.size + 1, 1, none⟩ = some (.int .u8 d) := cell_on1 hb1 (by simp [go_sem])
  have hbw1 : Hid (Below w.heap.size w w1) := by show Below _ _ _; (repeat (first | assumption | exact Below.refl _ _ | refine Below.drew ?_ | refine bel_drewN ?_ _ | refine Below.setCell ?_ (by first | omega | (simp; done) | (simp; omega)) _ | refine Below.alloc ?_ (by first | omega | (simp; done) | (simp; omega)) _ | refine bel_of ?_ (by assumption)))
  have hz1 := hbw1.out.size
  clear hb1 hcal
  go_wp2_with (fail)
  refine (hcal2 _).mono ?_
  rintro e w2 ⟨rfl, hb2⟩
  have c0 := cell_on1 hb2 a0
  have c1 := cell_on1 hb2 a1
  have d0 := cell_on1 hb2 b0
  have d1 := cell_on1 hb2 b1
  have hbw2 : Hid (Below w.heap.size w w2) := hbw1.out.trans (hb2.mono hz1)
  have hz2 := hbw2.out.size
  clear hb2 a0 a1 b0 b1 hbw1 hcal2
  go_wp2_with (fail)
  cases ha : apM v c x d
  · have hm := fun W => rmeet_yes v c x d W hv hc hx hd (by rw [h1, h2, ha]; rfl)
    have HO : Hid (okM v c = true ∧ okM x d = true ∧ apM v c x d = false) := ⟨h1, h2, ha⟩
    generalize v ||| x = mm at hm
    generalize c ||| d = nn at hm
    clear h1 h2 ha
    refine (hm _).mono ?_
    rintro e w3 ⟨rfl, hb3⟩
    have a0 := cell_on1 hb3 c0
    have a1 := cell_on1 hb3 c1
    have b0 := cell_on1 hb3 d0
    have b1 := cell_on1 hb3 d1
    have hbw3 : Hid (Below w.heap.size w w3) := hbw2.out.trans (hb3.mono hz2)
    have hz3 := hbw3.out.size
    have hO : w.heap.size + 1 < w3.heap.size := World.block_lt_of_cell? _ _ b0
    have m0 : ¬ w.heap.size = w3.heap.size := by omega
    have m1 : w.heap.size < w3.heap.size := by omega
    clear hb3 c0 c1 d0 d1 hbw2 hm
    go_wp2_with (fail)
    obtain ⟨W, hW⟩ : ∃ W, W = (w3.alloc (.cells #[.int .u8 mm, .int .u8 nn] 31)).alloc (.cells #[.int .u8 v, .int .u8 c] 31) := ⟨_, rfl⟩
    obtain ⟨B, hB⟩ : ∃ B, B = w3.heap.size + 1 := ⟨_, rfl⟩
    have A1 : W.cell? ⟨w.heap.size, 1, none⟩ = some (.int .u8 c) := by rw [hW]; exact cell_alloc (cell_alloc a1)
    have B0 : W.cell? ⟨w.heap.size + 1, 0, none⟩ = some (.int .u8 x) := by rw [hW]; exact cell_alloc (cell_alloc b0)
    have B1 : W.cell? ⟨w.heap.size + 1, 1, none⟩ = some (.int .u8 d) := by rw [hW]; exact cell_alloc (cell_alloc b1)
    have O0 : W.cell? ⟨B, 0, none⟩ = some (.int .u8 v) := by rw [hW, hB]; simp [go_sem]
    have O1 : W.cell? ⟨B, 1, none⟩ = some (.int .u8 c) := by rw [hW, hB]; simp [go_sem]
    have FO : ∀ i, W.frozen? ⟨B, i, none⟩ = false := by intro i; rw [hW, hB]; simp [go_sem]
    have hbW : Hid (Below w.heap.size w W) := by rw [hW]; exact (hbw3.out.alloc (by omega) _).alloc (by simp; omega) _
    have hOB : w.heap.size + 1 < B := by omega
    have hWB : B < W.heap.size := World.block_lt_of_cell? _ _ O0
    rw [← hW, ← hB]
    clear hW hB a0 a1 b0 b1 hbw3 m0 m1 hz3 hO
    go_loopw [5, 9, 10] (fun pv iv _ wr => ∃ k : Nat, k ≤ 8 ∧ iv = .int .i64 k ∧ Hid (Row wr (B + 1) pv (lessN v c x d k)) ∧ Hid (Below B W wr) ∧ wr.cell? ⟨B, 0, none⟩ = some (.int .u8 ((rv v x k : Nat) : Int)) ∧ wr.cell? ⟨B, 1, none⟩ = some (.int .u8 ((rv c d k : Nat) : Int)) ∧ ∀ i, wr.frozen? ⟨B, i, none⟩ = false) (fun _ iv _ _ => 8 - (intOf iv).toNat)
    case atStart => exact ⟨0, Nat.zero_le _, rfl, Row.nil _ _, Below.refl _ _, by rw [rv_zero hx]; exact O0, by rw [rv_zero hd]; exact O1, FO⟩
    case round =>
      obtain ⟨k, hk, rfl, hrow, hbw, o0, o1, fo⟩ := hrel
      have a1 : wr.cell? ⟨w.heap.size, 1, none⟩ = some (.int .u8 c) := by rw [hbw.out.cell (show w.heap.size < B by omega)]; exact A1
      have b0 : wr.cell? ⟨w.heap.size + 1, 0, none⟩ = some (.int .u8 x) := by rw [hbw.out.cell hOB]; exact B0
      have b1 : wr.cell? ⟨w.heap.size + 1, 1, none⟩ = some (.int .u8 d) := by rw [hbw.out.cell hOB]; exact B1
      have hsz : B < wr.heap.size := World.block_lt_of_cell? _ _ o0
      clear O0 O1 FO
      by_cases hlt : k < 8
      · have hlt' : (k : Int) < 8 := by omega
        have l1 := tb_lt c k
        have l2 := tb_lt d k
        have l3 := tb_lt x k
        cases hk1 : cut c d k
        · have HN : Hid (cut c d k = false) := hk1
          have hq : ¬ (tb c k = 0 ∧ tb d k = 1) := fun e => by rw [cut_tb.2 e] at hk1; cases hk1
          clear hk1
          obtain e1 | e1 : tb c k = 1 ∨ (tb c k = 0 ∧ tb d k = 0) := by omega
          · have i1 : ((tb c k : Nat) : Int) = 1 := by omega
            clear hq e1 l1 l2 l3
            go_wp2_with (go_at_call 41; refine (bitM _ k _ ?_ ?_).mono ?_; assumption; omega; rintro e w' ⟨rfl, hw⟩; obtain rfl := hw.symm; clear hw)
            go_roundw
            case rel => exact ⟨k + 1, by omega, by go_num, by show Row _ _ _ _; rw [lessN_miss HN.out]; exact hrow.out, hbw.out, by rw [rv_stay' hlt HO.out.1 HO.out.2.1 HO.out.2.2 HN.out]; exact o0, by rw [rc_stay hlt HN.out]; exact o1, fo⟩
            case measure => simp [intOf]; omega
          · have i1 : ((tb c k : Nat) : Int) = 0 := by omega
            have i2 : ((tb d k : Nat) : Int) = 0 := by omega
            clear hq e1 l1 l2 l3
            go_wp2_with (go_at_call 41; refine (bitM _ k _ ?_ ?_).mono ?_; assumption; omega; rintro e w' ⟨rfl, hw⟩; obtain rfl := hw.symm; clear hw)
            go_roundw
            case rel => exact ⟨k + 1, by omega, by go_num, by show Row _ _ _ _; rw [lessN_miss HN.out]; exact hrow.out, hbw.out, by rw [rv_stay' hlt HO.out.1 HO.out.2.1 HO.out.2.2 HN.out]; exact o0, by rw [rc_stay hlt HN.out]; exact o1, fo⟩
            case measure => simp [intOf]; omega
        · have HN : Hid (cut c d k = true) := hk1
          obtain ⟨e1, e2⟩ := cut_tb.1 hk1
          have i1 : ((tb c k : Nat) : Int) = 0 := by omega
          have i2 : ((tb d k : Nat) : Int) = 1 := by omega
          have HC : Hid (((rv c d k : Nat) : Int) + 2 ^ (7 - k) = ((rv c d (k + 1) : Nat) : Int)) := (rc_add hlt hc hd hk1).1
          have LC : ((rv c d k : Nat) : Int) + 2 ^ (7 - k) < 256 := (rc_add hlt hc hd hk1).2
          have PC : 0 ≤ ((rv c d k : Nat) : Int) + 2 ^ (7 - k) := Int.add_nonneg (Int.natCast_nonneg _) (Int.pow_nonneg (by decide))
          have HM : Hid (Mem W (wr.alloc (.cells #[.int .u8 (rv v x k : Nat), .int .u8 (rv c d k : Nat)] 31)) B wr.heap.size u5 (lessN v c x d k) (rv v x k : Nat) (rv c d k : Nat) (rv v x k : Nat) (rv c d k : Nat)) := Mem.new o0 o1 fo hrow.out hbw.out
          have nB : ¬ B = wr.heap.size := by omega
          have mB : ¬ wr.heap.size = B := by omega
          have HCw : Hid (IntKind.u8.wrap (((rv c d k : Nat) : Int) + 2 ^ (7 - k)) = ((rv c d (k + 1) : Nat) : Int)) := by show _ = _; rw [u8_wrap PC LC, HC.out]
          clear e1 e2 l1 l2 HC
          go_upto_region 14 with (go_at_call 41; refine (bitM _ k _ ?_ ?_).mono ?_; assumption; omega; rintro e w' ⟨rfl, hw⟩; obtain rfl := hw.symm; clear hw)
          clear o0 o1 fo a1 b0 b1 A1 B1 hrow hbw
          obtain ⟨X, hX⟩ : ∃ X, X = wr.heap.size := ⟨_, rfl⟩
          obtain ⟨wy, hwy⟩ : ∃ wy, wy = wr.alloc (.cells #[.int .u8 (rv v x k : Nat), .int .u8 (rv c d k : Nat)] 31) := ⟨_, rfl⟩
          rw [← hwy, ← hX] at HM
          rw [← hwy, ← hX]
          rw [← hX] at nB mB
          clear hwy hX hsz
          have x0 := HM.out.x0
          have x1 := HM.out.x1
          have p0 := HM.out.fx 0
          have p1 := HM.out.fx 1
          have o0 := HM.out.o0
          have o1 := HM.out.o1
          have g0 := HM.out.fo 0
          have g1 := HM.out.fo 1
          have b0 : wy.cell? ⟨w.heap.size + 1, 0, none⟩ = some (.int .u8 x) := by rw [HM.out.bel.cell hOB]; exact B0
          go_upto_region 14 with (fail)
          go_cut [10] from 34 to 83 (fun s wx => s = .pointer (some ⟨X, 0, none⟩) ∧ Hid (Mem W wx B X u5 (lessN v c x d k) (rv v x k : Nat) (rv c d (k + 1) : Nat) (rv v x k : Nat) (rv c d k : Nat)))
          case first =>
            as_aux_lemma =>
              go_region_with (go_at_call 43; refine (oneM k _ ?_).mono ?_; omega; rintro e w' ⟨rfl, hw⟩; obtain rfl := hw.symm; clear hw)
              all_goals
                go_wp2_with (fail)
                go_meet
                case rel => exact ⟨rfl, by show Mem _ _ _ _ _ _ _ _ _ _; rw [HCw.out]; first | exact (HM.out.setX1 _).drew | exact HM.out.setX1 _⟩
          case rest =>
            obtain ⟨rfl, HM2⟩ := hcut
            clear x0 x1 p0 p1 o0 o1 g0 g1 b0 HM
            have x0 := HM2.out.x0
            have x1 := HM2.out.x1
            have p0 := HM2.out.fx 0
            have p1 := HM2.out.fx 1
            have o0 := HM2.out.o0
            have o1 := HM2.out.o1
            have g0 := HM2.out.fo 0
            have g1 := HM2.out.fo 1
            have b0 : wc.cell? ⟨w.heap.size + 1, 0, none⟩ = some (.int .u8 x) := by rw [HM2.out.bel.cell hOB]; exact B0
            go_upto_region 15 with (fail)
            go_cut [10] from 34 to 83 (fun s wx => s = .pointer (some ⟨X, 0, none⟩) ∧ Hid (Mem W wx B X u5 (lessN v c x d k) (rv v x k : Nat) (rv c d (k + 1) : Nat) (rv v x k : Nat) (rv c d (k + 1) : Nat)))
            case first =>
              as_aux_lemma =>
                go_region_with (go_at_call 43; refine (oneM k _ ?_).mono ?_; omega; rintro e w' ⟨rfl, hw⟩; obtain rfl := hw.symm; clear hw)
                all_goals
                  go_wp2_with (fail)
                  go_meet
                  case rel => exact ⟨rfl, by show Mem _ _ _ _ _ _ _ _ _ _; rw [HCw.out]; first | exact (HM2.out.setA1 _).drew | exact HM2.out.setA1 _⟩
            case rest =>
              obtain ⟨rfl, HM3⟩ := hcut
              clear x0 x1 p0 p1 o0 o1 g0 g1 b0 HM2 HCw LC PC
              have x0 := HM3.out.x0
              have x1 := HM3.out.x1
              have p0 := HM3.out.fx 0
              have p1 := HM3.out.fx 1
              have o0 := HM3.out.o0
              have o1 := HM3.out.o1
              have g0 := HM3.out.fo 0
              have g1 := HM3.out.fo 1
              have b0 : wc.cell? ⟨w.heap.size + 1, 0, none⟩ = some (.int .u8 x) := by rw [HM3.out.bel.cell hOB]; exact B0
              obtain e3 | e3 : tb x k = 0 ∨ tb x k = 1 := by omega
              · have i3 : ((tb x k : Nat) : Int) = 0 := by omega
                have hpz := piece_zero hlt hv hx HO.out.1 HN.out e3
                have HP : Hid (((rv v x k : Nat) : Int) + 2 ^ (7 - k) = (((piece v c x d k).1 : Nat) : Int)) := hpz.1
                have LP : ((rv v x k : Nat) : Int) + 2 ^ (7 - k) < 256 := hpz.2.1
                have PP : 0 ≤ ((rv v x k : Nat) : Int) + 2 ^ (7 - k) := Int.add_nonneg (Int.natCast_nonneg _) (Int.pow_nonneg (by decide))
                have HPw : Hid (IntKind.u8.wrap (((rv v x k : Nat) : Int) + 2 ^ (7 - k)) = (((piece v c x d k).1 : Nat) : Int)) := by show _ = _; rw [u8_wrap PP LP, HP.out]
                have HQ : Hid (rv v x (k + 1) = rv v x k) := hpz.2.2
                clear hpz e3 l3
                go_upto_region 17 with (go_at_call 41; refine (bitM _ k _ ?_ ?_).mono ?_; assumption; omega; rintro e w' ⟨rfl, hw⟩; obtain rfl := hw.symm; clear hw)
                go_cut [10] from 34 to 83 (fun s wx => s = .pointer (some ⟨X, 0, none⟩) ∧ Hid (Mem W wx B X u5 (lessN v c x d k) ((piece v c x d k).1 : Nat) (rv c d (k + 1) : Nat) (rv v x k : Nat) (rv c d (k + 1) : Nat)))
                case first =>
                  as_aux_lemma =>
                    go_region_with (go_at_call 43; refine (oneM k _ ?_).mono ?_; omega; rintro e w' ⟨rfl, hw⟩; obtain rfl := hw.symm; clear hw)
                    all_goals
                      go_wp2_with (fail)
                      go_meet
                      case rel => exact ⟨rfl, by show Mem _ _ _ _ _ _ _ _ _ _; rw [HPw.out]; first | exact (HM3.out.setX0 _).drew | exact HM3.out.setX0 _⟩
                case rest =>
                  obtain ⟨rfl, HM4⟩ := hcut
                  clear x0 x1 p0 p1 o0 o1 g0 g1 b0 HM3 HP HPw LP PP
                  have x0 := HM4.out.x0
                  have x1 := HM4.out.x1
                  have p0 := HM4.out.fx 0
                  have p1 := HM4.out.fx 1
                  have o0 := HM4.out.o0
                  have o1 := HM4.out.o1
                  have g0 := HM4.out.fo 0
                  have g1 := HM4.out.fo 1
                  have b0 : wc.cell? ⟨w.heap.size + 1, 0, none⟩ = some (.int .u8 x) := by rw [HM4.out.bel.cell hOB]; exact B0
                  have hsz := HM4.out.sz
                  have hgt := HM4.out.gt
                  have HNE : Hid (some B ≠ u5.ownBlock) := fun e => by have := (HM4.out.row.lt _ e.symm).1; omega
                  go_wp2_with (at_builtin; refine wpList_append_rows rfl (.tmp 80) (.tmp 82) rfl (B + 1) _ (lessN v c x d k) rfl (HM4.out.row.alloc _) (B + 1) _ [piece v c x d k] rfl (Row.one2 wc (B + 1) _ _ (by simp) (by rfl) rfl (by omega)) (by simp; omega) (by have := lessN_le v c x d k; simp; omega) ?_; intro v5 w5 hrow5 hgr5)
                  go_roundw
                  case rel =>
                    refine ⟨k + 1, by omega, by go_num, by show Row _ _ _ _; rw [lessN_hit HN.out]; exact hrow5, (HM4.out.bel.alloc (by omega) _).grown hgr5 (by simp; omega) (fun j hj => by have := (HM4.out.row.lt j hj).1; omega), ?_, ?_, ?_⟩
                    · rw [HQ.out]; exact hgr5.cell (cell_alloc o0) HNE.out
                    · exact hgr5.cell (cell_alloc o1) HNE.out
                    · intro i; rw [hgr5.frozen_far ⟨B, i, none⟩ (by simp; omega) HNE.out, ((Below.refl wc.heap.size wc).alloc (Nat.le_refl _) _).frozen (p := ⟨B, i, none⟩) (show B < _ by omega)]; exact HM4.out.fo i
                  case measure => simp [intOf]; omega
              · have i3 : ((tb x k : Nat) : Int) = 1 := by omega
                have hpz := piece_one hlt hv hx HO.out.1 HN.out e3
                have HP : Hid (((rv v x k : Nat) : Int) + 2 ^ (7 - k) = ((rv v x (k + 1) : Nat) : Int)) := hpz.1
                have LP : ((rv v x k : Nat) : Int) + 2 ^ (7 - k) < 256 := hpz.2.1
                have PP : 0 ≤ ((rv v x k : Nat) : Int) + 2 ^ (7 - k) := Int.add_nonneg (Int.natCast_nonneg _) (Int.pow_nonneg (by decide))
                have HPw : Hid (IntKind.u8.wrap (((rv v x k : Nat) : Int) + 2 ^ (7 - k)) = ((rv v x (k + 1) : Nat) : Int)) := by show _ = _; rw [u8_wrap PP LP, HP.out]
                have HQ : Hid ((piece v c x d k).1 = rv v x k) := hpz.2.2
                clear hpz e3 l3
                go_upto_region 18 with (go_at_call 41; refine (bitM _ k _ ?_ ?_).mono ?_; assumption; omega; rintro e w' ⟨rfl, hw⟩; obtain rfl := hw.symm; clear hw)
                go_cut [10] from 34 to 83 (fun s wx => s = .pointer (some ⟨X, 0, none⟩) ∧ Hid (Mem W wx B X u5 (lessN v c x d k) (rv v x k : Nat) (rv c d (k + 1) : Nat) (rv v x (k + 1) : Nat) (rv c d (k + 1) : Nat)))
                case first =>
                  as_aux_lemma =>
                    go_region_with (go_at_call 43; refine (oneM k _ ?_).mono ?_; omega; rintro e w' ⟨rfl, hw⟩; obtain rfl := hw.symm; clear hw)
                    all_goals
                      go_wp2_with (fail)
                      go_meet
                      case rel => exact ⟨rfl, by show Mem _ _ _ _ _ _ _ _ _ _; rw [HPw.out]; first | exact (HM3.out.setA0 _).drew | exact HM3.out.setA0 _⟩
                case rest =>
                  obtain ⟨rfl, HM4⟩ := hcut
                  clear x0 x1 p0 p1 o0 o1 g0 g1 b0 HM3 HP HPw LP PP
                  have x0 := HM4.out.x0
                  have x1 := HM4.out.x1
                  have p0 := HM4.out.fx 0
                  have p1 := HM4.out.fx 1
                  have o0 := HM4.out.o0
                  have o1 := HM4.out.o1
                  have g0 := HM4.out.fo 0
                  have g1 := HM4.out.fo 1
                  have b0 : wc.cell? ⟨w.heap.size + 1, 0, none⟩ = some (.int .u8 x) := by rw [HM4.out.bel.cell hOB]; exact B0
                  have hsz := HM4.out.sz
                  have hgt := HM4.out.gt
                  have HNE : Hid (some B ≠ u5.ownBlock) := fun e => by have := (HM4.out.row.lt _ e.symm).1; omega
                  go_wp2_with (at_builtin; refine wpList_append_rows rfl (.tmp 80) (.tmp 82) rfl (B + 1) _ (lessN v c x d k) rfl (HM4.out.row.alloc _) (B + 1) _ [piece v c x d k] rfl (Row.one2 wc (B + 1) _ _ (by simp) (congrArg (Nat.cast (R := Int)) HQ.out.symm) rfl (by omega)) (by simp; omega) (by have := lessN_le v c x d k; simp; omega) ?_; intro v5 w5 hrow5 hgr5)
                  go_roundw
                  case rel =>
                    refine ⟨k + 1, by omega, by go_num, by show Row _ _ _ _; rw [lessN_hit HN.out]; exact hrow5, (HM4.out.bel.alloc (by omega) _).grown hgr5 (by simp; omega) (fun j hj => by have := (HM4.out.row.lt j hj).1; omega), ?_, ?_, ?_⟩
                    · exact hgr5.cell (cell_alloc o0) HNE.out
                    · exact hgr5.cell (cell_alloc o1) HNE.out
                    · intro i; rw [hgr5.frozen_far ⟨B, i, none⟩ (by simp; omega) HNE.out, ((Below.refl wc.heap.size wc).alloc (Nat.le_refl _) _).frozen (p := ⟨B, i, none⟩) (show B < _ by omega)]; exact HM4.out.fo i
                  case measure => simp [intOf]; omega
      · obtain rfl : k = 8 := by omega
        have hbw0 : Hid (Below w.heap.size w wr) := hbW.out.trans (hbw.out.mono (by omega))
        go_wp2_with (fail)
        go_ret
        refine ⟨_, rfl, ?_, hbw0.out⟩
        rw [lessM_in HO.out.1 HO.out.2.1 HO.out.2.2]
        exact hrow.out.base (by omega)
  · have hm := fun W => rmeet_no v c x d W hv hc hx hd (by rw [h1, h2, ha]; rfl)
    have HE : Hid (lessM v c x d = [(v, c)]) := lessM_ap h1 h2 ha
    clear h1 h2 ha
    refine (hm _).mono ?_
    rintro e w3 ⟨rfl, hb3⟩
    have a0 := cell_on1 hb3 c0
    have a1 := cell_on1 hb3 c1
    have hbw3 : Hid (Below w.heap.size w w3) := hbw2.out.trans (hb3.mono hz2)
    have hz3 := hbw3.out.size
    have hO : w.heap.size < w3.heap.size := World.block_lt_of_cell? _ _ a0
    have m0 : ¬ w.heap.size = w3.heap.size := by omega
    clear hb3 c0 c1 d0 d1 hbw2 hm
    go_wp2_with (at_builtin; refine wpList_append_rows rfl (.tmp 28) (.tmp 30) rfl w.heap.size _ [] rfl (Row.nil _ _) w.heap.size _ [(v, c)] rfl (Row.one2 (w3.alloc (.cells #[.int .u8 0, .int .u8 0] 31)) w.heap.size _ _ (by simp) rfl rfl (by simp; omega)) (by simp; omega) (by simp) ?_; intro v5 w5 hrow5 hgr5)
    go_ret
    exact ⟨_, rfl, by rw [HE.out]; exact hrow5, ((hbw3.out.alloc (by omega) _).alloc (by simp; omega) _).grown hgr5 (by simp; omega) (fun j hj => by cases hj)⟩
theorem rlessM (v c x d : Nat) (w : World) (hv : v < 256) (hc : c < 256) (hx : x < 256) (hd : d < 256) :
    Calls Try.prog 35 #[.agg #[.int .u8 v, .int .u8 c], .agg #[.int .u8 x, .int .u8 d]] w fun e w' => ∃ v' : Value, e = .returned v' ∧ Row w' w.heap.size v' (lessM v c x d) ∧ Below w.heap.size w w' := by
  cases ho : (okM v c && okM x d)
  · exact rless_bad v c x d w hv hc hx hd ho
  · rw [Bool.and_eq_true] at ho
    exact rless_ok v c x d w hv hc hx hd ho.1 ho.2
end Go.Proofs.Ythggiblkehcfaaa
