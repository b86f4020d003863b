/-
  Package table: among, isAction, Check, New; placeOf, mayJoin, copyOf.
-/
import Derived.Test.YtgidohnikggjfaaGreatTbS
import Derived.Test.YtgidohnikggjfaaGreatTbRd
namespace Go.Proofs.YtgidohnikggjfaaGreat
open Go.RowKit
set_option linter.unusedVariables false
set_option linter.unusedSimpArgs false

/-- A configuration: Max, Default, Prune, Grid, Tuple, Binth, Depth. -/
structure Cf where
  m : Int
  a : Int
  p : Int
  g : Int
  t : Int
  b : Int
  d : Int
def BdC (c : Cf) : Prop := I64 c.m ∧ I64 c.a ∧ I64 c.p ∧ I64 c.g ∧ I64 c.t ∧ I64 c.b ∧ I64 c.d
def amg (n a b : Int) : Bool := decide (a ≤ n) && decide (n ≤ b)
theorem amg_iff {n a b : Int} : amg n a b = true ↔ a ≤ n ∧ n ≤ b := by unfold amg; simp
def okC (c : Cf) : Bool := amg c.m 1 64 && amg c.a 1 4 && (amg c.p 0 1048576 && amg c.g 0 1048576 && amg c.t 0 1048576) && (amg c.b 1 16 && amg c.d 0 10)
def errC (c : Cf) : Int := if okC c then 0 else 110
theorem amongC (n a b : Int) (w : World) : Calls Tryz.prog 48 #[.int .i64 n, .int .i64 a, .int .i64 b] w fun e w' => e = .returned (.bool (amg n a b)) ∧ w' = w := by
  unfold amg
  by_cases h : a ≤ n
  · rw [decide_eq_true h, Bool.true_and]
    go_enter Tryz.func48, Tryz.ntmps48
    go_wp2
    go_ret
    exact ⟨rfl, rfl⟩
  · rw [decide_eq_false h, Bool.false_and]
    go_enter Tryz.func48, Tryz.ntmps48
    go_wp2
    go_ret
    exact ⟨ret_same (by simp), rfl⟩
theorem allR_bd (i a : Int) (hi : I64 i) (ha : I64 a) : BdR (allR i a) := by
  unfold BdR allR
  have n1 : (0 : Nat) < 4294967296 := by decide
  have n2 : (0 : Nat) < 65536 := by decide
  have n3 : (65535 : Nat) < 65536 := by decide
  have n4 : (0 : Nat) < 256 := by decide
  have n5 : I64 0 := by unfold I64; decide
  exact ⟨n1, n1, n2, n3, n2, n3, n4, n4, hi, n5, n5, ha⟩
theorem isActionC (a : Int) (ha : I64 a) (w : World) : Calls Tryz.prog 49 #[.int .i64 a] w fun e w' => e = .returned (.bool (amg a 1 4)) ∧ Below w.heap.size w w' := by
  have hA := fun W => allRC 1 a W
  have hC := fun W => checkRC (allR 1 a) W (allR_bd 1 a (by unfold I64; decide) ha)
  have he : amg a 1 4 = decide ((errs (allR 1 a)).1 = 0) := by
    rw [Bool.eq_iff_iff, decide_eq_true_eq, ← okR_err, allR_ok, decide_eq_true_eq, amg_iff]
    omega
  rw [he]
  generalize (errs (allR 1 a)).1 = x at *
  generalize (errs (allR 1 a)).2 = y at *
  clear he
  simp only [allR] at hA hC
  go_enter Tryz.func49, Tryz.ntmps49
  go_wp2_with (fail)
  refine (hA _).mono ?_
  rintro e w1 ⟨rfl, hb1⟩
  go_wp2_with (fail)
  refine (hC _).mono ?_
  rintro e w2 ⟨rfl, hb2⟩
  go_wp2_with (fail)
  go_ret
  exact ⟨ret_same (by first | rfl | simp), hb1.trans (hb2.mono hb1.size)⟩
set_option maxHeartbeats 2000000 in
theorem checkCC (c : Cf) (o : BdC c) (w : World) : Calls Tryz.prog 33 #[.agg #[.int .i64 c.m, .int .i64 c.a, .int .i64 c.p, .int .i64 c.g, .int .i64 c.t, .int .i64 c.b, .int .i64 c.d]] w fun e w' => e = .returned (.int .i64 (errC c)) ∧ Below w.heap.size w w' := by
  have k1 := fun W => amongC c.p 0 1048576 W
  have k2 := fun W => amongC c.g 0 1048576 W
  have k3 := fun W => amongC c.t 0 1048576 W
  have k4 := fun W => amongC c.b 1 16 W
  have k5 := fun W => amongC c.d 0 10 W
  have k6 := fun W => amongC c.m 1 64 W
  have k7 := fun W => isActionC c.a o.2.1 W
  obtain ⟨E, hE⟩ : ∃ E, E = errC c := ⟨_, rfl⟩
  rw [← hE]
  have HE : Hid (E = if (amg c.m 1 64 && amg c.a 1 4 && (amg c.p 0 1048576 && amg c.g 0 1048576 && amg c.t 0 1048576) && (amg c.b 1 16 && amg c.d 0 10)) = true then 0 else 110) := hE
  clear o hE
  generalize amg c.p 0 1048576 = q1 at *
  generalize amg c.g 0 1048576 = q2 at *
  generalize amg c.t 0 1048576 = q3 at *
  generalize amg c.b 1 16 = q4 at *
  generalize amg c.d 0 10 = q5 at *
  generalize amg c.m 1 64 = q6 at *
  generalize amg c.a 1 4 = q7 at *
  go_enter Tryz.func33, Tryz.ntmps33
  go_upto_region 1 with (fail)
  have c0 : (w.alloc (.cells #[.int .i64 c.m, .int .i64 c.a, .int .i64 c.p, .int .i64 c.g, .int .i64 c.t, .int .i64 c.b, .int .i64 c.d] 24)).cell? ⟨w.heap.size, 0, none⟩ = some (.int .i64 c.m) := blk_cell (blk_new w _) rfl
  have c1 : (w.alloc (.cells #[.int .i64 c.m, .int .i64 c.a, .int .i64 c.p, .int .i64 c.g, .int .i64 c.t, .int .i64 c.b, .int .i64 c.d] 24)).cell? ⟨w.heap.size, 1, none⟩ = some (.int .i64 c.a) := blk_cell (blk_new w _) rfl
  have c2 : (w.alloc (.cells #[.int .i64 c.m, .int .i64 c.a, .int .i64 c.p, .int .i64 c.g, .int .i64 c.t, .int .i64 c.b, .int .i64 c.d] 24)).cell? ⟨w.heap.size, 2, none⟩ = some (.int .i64 c.p) := blk_cell (blk_new w _) rfl
  have c3 : (w.alloc (.cells #[.int .i64 c.m, .int .i64 c.a, .int .i64 c.p, .int .i64 c.g, .int .i64 c.t, .int .i64 c.b, .int .i64 c.d] 24)).cell? ⟨w.heap.size, 3, none⟩ = some (.int .i64 c.g) := blk_cell (blk_new w _) rfl
  have c4 : (w.alloc (.cells #[.int .i64 c.m, .int .i64 c.a, .int .i64 c.p, .int .i64 c.g, .int .i64 c.t, .int .i64 c.b, .int .i64 c.d] 24)).cell? ⟨w.heap.size, 4, none⟩ = some (.int .i64 c.t) := blk_cell (blk_new w _) rfl
  have c5 : (w.alloc (.cells #[.int .i64 c.m, .int .i64 c.a, .int .i64 c.p, .int .i64 c.g, .int .i64 c.t, .int .i64 c.b, .int .i64 c.d] 24)).cell? ⟨w.heap.size, 5, none⟩ = some (.int .i64 c.b) := blk_cell (blk_new w _) rfl
  have c6 : (w.alloc (.cells #[.int .i64 c.m, .int .i64 c.a, .int .i64 c.p, .int .i64 c.g, .int .i64 c.t, .int .i64 c.b, .int .i64 c.d] 24)).cell? ⟨w.heap.size, 6, none⟩ = some (.int .i64 c.d) := blk_cell (blk_new w _) rfl
  have HB : Hid (Below w.heap.size w (w.alloc (.cells #[.int .i64 c.m, .int .i64 c.a, .int .i64 c.p, .int .i64 c.g, .int .i64 c.t, .int .i64 c.b, .int .i64 c.d] 24))) := (Below.refl _ _).alloc (Nat.le_refl _) _
  generalize w.alloc (.cells #[.int .i64 c.m, .int .i64 c.a, .int .i64 c.p, .int .i64 c.g, .int .i64 c.t, .int .i64 c.b, .int .i64 c.d] 24) = W at *
  go_cut [3] (fun s wx => s = .bool (q1 && q2 && q3) ∧ Hid (wx = W))
  case first =>
    clear k4 k5 k6 k7
    go_wp2_with (fail)
    refine (k1 _).mono ?_
    rintro e w1 ⟨rfl, hw⟩
    obtain rfl := hw.symm
    clear hw
    cases q1
    · go_wp2_with (fail)
      go_meet
      case rel => exact ⟨by simp, rfl⟩
    · go_wp2_with (fail)
      refine (k2 _).mono ?_
      rintro e w1 ⟨rfl, hw⟩
      obtain rfl := hw.symm
      clear hw
      cases q2
      · go_wp2_with (fail)
        go_meet
        case rel => exact ⟨by simp, rfl⟩
      · go_wp2_with (fail)
        refine (k3 _).mono ?_
        rintro e w1 ⟨rfl, hw⟩
        obtain rfl := hw.symm
        clear hw
        go_wp2_with (fail)
        go_meet
        case rel => exact ⟨by simp, rfl⟩
  case rest =>
    obtain ⟨rfl, hx⟩ := hcut
    obtain rfl := hx.out.symm
    clear hx k1 k2 k3
    generalize (q1 && q2 && q3) = Q1 at *
    go_upto_region 2 with (fail)
    go_cut [4] (fun s wx => s = .bool (q4 && q5) ∧ Hid (wx = W))
    case first =>
      clear k6 k7
      go_wp2_with (fail)
      refine (k4 _).mono ?_
      rintro e w1 ⟨rfl, hw⟩
      obtain rfl := hw.symm
      clear hw
      cases q4
      · go_wp2_with (fail)
        go_meet
        case rel => exact ⟨by simp, rfl⟩
      · go_wp2_with (fail)
        refine (k5 _).mono ?_
        rintro e w1 ⟨rfl, hw⟩
        obtain rfl := hw.symm
        clear hw
        go_wp2_with (fail)
        go_meet
        case rel => exact ⟨by simp, rfl⟩
    case rest =>
      obtain ⟨rfl, hx⟩ := hcut
      obtain rfl := hx.out.symm
      clear hx k4 k5
      generalize (q4 && q5) = Q2 at *
      go_wp2_with (fail)
      refine (k6 _).mono ?_
      rintro e w1 ⟨rfl, hw⟩
      obtain rfl := hw.symm
      clear hw
      cases q6
      · go_wp2_with (fail)
        go_ret
        exact ⟨ret_int (by rw [HE.out]; rfl), HB.out⟩
      · go_wp2_with (fail)
        refine (k7 _).mono ?_
        rintro e w1 ⟨rfl, hb1⟩
        have HB1 : Hid (Below w.heap.size w w1) := HB.out.trans (hb1.mono HB.out.size)
        clear hb1
        cases q7 <;> cases Q1 <;> cases Q2
        all_goals
          go_wp2_with (fail)
          go_ret
          exact ⟨ret_int (by rw [HE.out]; rfl), HB1.out⟩
set_option maxRecDepth 20000 in
set_option maxHeartbeats 2000000 in
theorem isIdC (id : Int) (R : Ru) (B : Nat) (w : World) (hB : w.cell? ⟨B, 0, none⟩ = some (.int .i64 id)) :
    Calls Tryz.prog 87 #[.agg #[.int .i64 R.i, .int .u32 (R.s : Int), .int .i64 R.sl, .int .u32 (R.d : Int), .int .i64 R.dl, .int .u16 (R.p.1 : Int), .int .u16 (R.p.2 : Int), .int .u16 (R.q.1 : Int), .int .u16 (R.q.2 : Int), .int .u8 (R.m.1 : Int), .int .u8 (R.m.2 : Int), .int .i64 R.act], .pointer (some ⟨B, 0, none⟩)] w fun e w' => e = .returned (.bool (decide (R.i = id))) ∧ Below w.heap.size w w' := by
  have hlt := World.block_lt_of_cell? w _ hB
  have hne : ¬ B = w.heap.size := by have : B < w.heap.size := hlt; omega
  have hB1 : (w.alloc (.cells #[.int .i64 R.i, .int .u32 (R.s : Int), .int .i64 R.sl, .int .u32 (R.d : Int), .int .i64 R.dl, .int .u16 (R.p.1 : Int), .int .u16 (R.p.2 : Int), .int .u16 (R.q.1 : Int), .int .u16 (R.q.2 : Int), .int .u8 (R.m.1 : Int), .int .u8 (R.m.2 : Int), .int .i64 R.act] 64)).cell? ⟨B, 0, none⟩ = some (.int .i64 id) := cell_on1 ((Below.refl _ _).alloc (Nat.le_refl _) _) hB
  go_enter Tryz.func87, Tryz.ntmps87
  go_wp2_with (fail)
  go_ret
  exact ⟨ret_same (by first | rfl | (rw [Bool.eq_iff_iff]; simp)), by (repeat (first | assumption | exact Below.refl _ _ | refine Below.drew ?_ | refine bel_drewN ?_ _ | refine Below.setCell ?_ (by first | omega | (simp; done) | (simp; omega)) _ | refine Below.alloc ?_ (by first | omega | (simp; done) | (simp; omega)) _ | refine bel_of ?_ (by assumption)))⟩
end Go.Proofs.YtgidohnikggjfaaGreat
