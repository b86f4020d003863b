/-
  The document's Match, Within, Meets of rules (quintetref08). Written by tools/mkRuRd.py.
-/
import Derived.Test.YtebljklpkoheaaaGreatRuRc
import Derived.Test.YtebljklpkoheaaaGreatMkD
import Derived.Lib.MinMax
namespace Go.Proofs.YtebljklpkoheaaaGreat
open Go.RowKit
set_option linter.unusedVariables false
set_option linter.unusedSimpArgs false

set_option maxRecDepth 20000 in
set_option maxHeartbeats 4000000 in
theorem rmatchR (R : Ru) (h : Hd) (w : World) (b : BdR R) (o : OkH h) :
    Calls Tryz.prog 17 #[.agg #[.int .i64 R.i, .int .u32 (R.s : Int), .int .i64 R.sl, .int .u32 (R.d : Int), .int .i64 R.dl, .int .u16 (R.p.1 : Int), .int .u16 (R.p.2 : Int), .int .u16 (R.q.1 : Int), .int .u16 (R.q.2 : Int), .int .u8 (R.m.1 : Int), .int .u8 (R.m.2 : Int), .int .i64 R.act], .agg #[.int .u32 (h.s : Int), .int .u32 (h.d : Int), .int .u16 (h.p : Int), .int .u16 (h.q : Int), .int .u8 (h.r : Int)]] w fun e w' => e = .returned (.bool (matchR R h)) ∧ Below w.heap.size w w' := by
  have hM := fun W => rmayR R W b
  cases ho : okR R
  · rw [ho] at hM
    rw [match_no ho]
    clear ho b o
    go_enter Tryz.func17, Tryz.ntmps17
    go_wp2_with (fail)
    refine (hM _).mono ?_
    rintro e w1 ⟨rfl, hb1⟩
    have GR : Hid (w1.heap[w.heap.size]? = some (.cells #[.int .i64 R.i, .int .u32 (R.s : Int), .int .i64 R.sl, .int .u32 (R.d : Int), .int .i64 R.dl, .int .u16 (R.p.1 : Int), .int .u16 (R.p.2 : Int), .int .u16 (R.q.1 : Int), .int .u16 (R.q.2 : Int), .int .u8 (R.m.1 : Int), .int .u8 (R.m.2 : Int), .int .i64 R.act] 32)) := blk_on (blk_alloc (blk_new w (.cells #[.int .i64 R.i, .int .u32 (R.s : Int), .int .i64 R.sl, .int .u32 (R.d : Int), .int .i64 R.dl, .int .u16 (R.p.1 : Int), .int .u16 (R.p.2 : Int), .int .u16 (R.q.1 : Int), .int .u16 (R.q.2 : Int), .int .u8 (R.m.1 : Int), .int .u8 (R.m.2 : Int), .int .i64 R.act] 32)) _) hb1
    have Gh : Hid (w1.heap[w.heap.size + 1]? = some (.cells #[.int .u32 (h.s : Int), .int .u32 (h.d : Int), .int .u16 (h.p : Int), .int .u16 (h.q : Int), .int .u8 (h.r : Int)] 34)) := blk_on (by simpa using blk_new (w.alloc (.cells #[.int .i64 R.i, .int .u32 (R.s : Int), .int .i64 R.sl, .int .u32 (R.d : Int), .int .i64 R.dl, .int .u16 (R.p.1 : Int), .int .u16 (R.p.2 : Int), .int .u16 (R.q.1 : Int), .int .u16 (R.q.2 : Int), .int .u8 (R.m.1 : Int), .int .u8 (R.m.2 : Int), .int .i64 R.act] 32)) (.cells #[.int .u32 (h.s : Int), .int .u32 (h.d : Int), .int .u16 (h.p : Int), .int .u16 (h.q : Int), .int .u8 (h.r : Int)] 34)) hb1
    have HO1 : Hid (w.heap.size + 1 < w1.heap.size) := blk_lt Gh.out
    have hbl1 : Hid (Below w.heap.size w w1) := bel_step (Below.refl _ _) (bel_a2 _ _ _) hb1
    clear hb1
    have HR := GR
    clear GR
    have Hh := Gh
    clear Gh
    have lR := blk_lt HR.out
    have nR : ¬ w.heap.size = w1.heap.size := by omega
    have lh := blk_lt Hh.out
    have nh : ¬ w.heap.size + 1 = w1.heap.size := by omega
    go_wp2_with (fail)
    go_ret
    exact ⟨rfl, hbl1.out⟩
  · rw [ho] at hM
    have e : matchR R h = ((hasI R.p h.p && hasI R.q h.q) && Pf.hasB R.s R.sl h.s && Pf.hasB R.d R.dl h.d && hasM R.m.1 R.m.2 h.r) := by
      rw [match_in ho]
      generalize Pf.hasB R.s R.sl h.s = u1
      generalize Pf.hasB R.d R.dl h.d = u2
      generalize hasI R.p h.p = u3
      generalize hasI R.q h.q = u4
      generalize hasM R.m.1 R.m.2 h.r = u5
      cases u1 <;> cases u2 <;> cases u3 <;> cases u4 <;> cases u5 <;> rfl
    rw [e]
    obtain ⟨b1, b2, b3, b4, b5, b6, b7, b8, _⟩ := b
    obtain ⟨o1, o2, o3, o4, o5⟩ := o
    have k1 := fun W => Pf.rhas_any R.s R.sl h.s W b1 o1
    have k2 := fun W => Pf.rhas_any R.d R.dl h.d W b2 o2
    have k5 := fun W => rhasM R.m.1 R.m.2 h.r W b7 b8 o5
    have HPP : Hid ((hasI R.p h.p && hasI R.q h.q) = decide (((R.p.1 : Int) ≤ h.p ∧ (h.p : Int) ≤ R.p.2) ∧ (R.q.1 : Int) ≤ h.q ∧ (h.q : Int) ≤ R.q.2)) := by
      show _ = _
      unfold hasI
      rw [Bool.eq_iff_iff]
      simp only [Bool.and_eq_true, decide_eq_true_eq]
      omega
    generalize Pf.hasB R.s R.sl h.s = u1 at *
    generalize Pf.hasB R.d R.dl h.d = u2 at *
    generalize (hasI R.p h.p && hasI R.q h.q) = pp at *
    generalize hasM R.m.1 R.m.2 h.r = u5 at *
    clear ho b1 b2 b3 b4 b5 b6 b7 b8 o1 o2 o3 o4 o5 e
    go_enter Tryz.func17, Tryz.ntmps17
    go_wp2_with (fail)
    refine (hM _).mono ?_
    rintro e w1 ⟨rfl, hb1⟩
    have GR : Hid (w1.heap[w.heap.size]? = some (.cells #[.int .i64 R.i, .int .u32 (R.s : Int), .int .i64 R.sl, .int .u32 (R.d : Int), .int .i64 R.dl, .int .u16 (R.p.1 : Int), .int .u16 (R.p.2 : Int), .int .u16 (R.q.1 : Int), .int .u16 (R.q.2 : Int), .int .u8 (R.m.1 : Int), .int .u8 (R.m.2 : Int), .int .i64 R.act] 32)) := blk_on (blk_alloc (blk_new w (.cells #[.int .i64 R.i, .int .u32 (R.s : Int), .int .i64 R.sl, .int .u32 (R.d : Int), .int .i64 R.dl, .int .u16 (R.p.1 : Int), .int .u16 (R.p.2 : Int), .int .u16 (R.q.1 : Int), .int .u16 (R.q.2 : Int), .int .u8 (R.m.1 : Int), .int .u8 (R.m.2 : Int), .int .i64 R.act] 32)) _) hb1
    have Gh : Hid (w1.heap[w.heap.size + 1]? = some (.cells #[.int .u32 (h.s : Int), .int .u32 (h.d : Int), .int .u16 (h.p : Int), .int .u16 (h.q : Int), .int .u8 (h.r : Int)] 34)) := blk_on (by simpa using blk_new (w.alloc (.cells #[.int .i64 R.i, .int .u32 (R.s : Int), .int .i64 R.sl, .int .u32 (R.d : Int), .int .i64 R.dl, .int .u16 (R.p.1 : Int), .int .u16 (R.p.2 : Int), .int .u16 (R.q.1 : Int), .int .u16 (R.q.2 : Int), .int .u8 (R.m.1 : Int), .int .u8 (R.m.2 : Int), .int .i64 R.act] 32)) (.cells #[.int .u32 (h.s : Int), .int .u32 (h.d : Int), .int .u16 (h.p : Int), .int .u16 (h.q : Int), .int .u8 (h.r : Int)] 34)) hb1
    have HO1 : Hid (w.heap.size + 1 < w1.heap.size) := blk_lt Gh.out
    have hbl1 : Hid (Below w.heap.size w w1) := bel_step (Below.refl _ _) (bel_a2 _ _ _) hb1
    clear hb1
    have HR := GR
    clear GR
    have Hh := Gh
    clear Gh
    have lR := blk_lt HR.out
    have nR : ¬ w.heap.size = w1.heap.size := by omega
    have lh := blk_lt Hh.out
    have nh : ¬ w.heap.size + 1 = w1.heap.size := by omega
    go_upto_region 3 with (fail)
    go_cut [5] (fun v wx => v = .bool pp ∧ Hid (wx = w1))
    case first =>
      obtain ⟨R_0, R_1, R_2, R_3, R_4, R_5, R_6, R_7, R_8, R_9, R_10, R_11⟩ := blk12 HR.out
      obtain ⟨h_0, h_1, h_2, h_3, h_4⟩ := blk5 Hh.out
      by_cases c0 : (R.p.1 : Int) ≤ h.p
      · by_cases c1 : (h.p : Int) ≤ R.p.2
        · by_cases c2 : (R.q.1 : Int) ≤ h.q
          · by_cases c3 : (h.q : Int) ≤ R.q.2
            · go_wp2_with (fail)
              go_meet
              case rel => exact ⟨by rw [HPP.out]; simp <;> omega, rfl⟩
            · go_wp2_with (fail)
              go_meet
              case rel => exact ⟨by rw [HPP.out]; simp <;> omega, rfl⟩
          · go_wp2_with (fail)
            go_meet
            case rel => exact ⟨by rw [HPP.out]; simp <;> omega, rfl⟩
        · go_wp2_with (fail)
          go_meet
          case rel => exact ⟨by rw [HPP.out]; simp <;> omega, rfl⟩
      · go_wp2_with (fail)
        go_meet
        case rel => exact ⟨by rw [HPP.out]; simp <;> omega, rfl⟩
    case rest =>
      obtain ⟨rfl, hcw⟩ := hcut
      obtain rfl := hcw.out
      clear hcw
      clear HPP
      cases pp
      · go_wp2_with (fail)
        go_ret
        exact ⟨ret_same (by simp), hbl1.out⟩
      · skip
        obtain ⟨R_0, R_1, R_2, R_3, R_4, R_5, R_6, R_7, R_8, R_9, R_10, R_11⟩ := blk12 HR.out
        obtain ⟨h_0, h_1, h_2, h_3, h_4⟩ := blk5 Hh.out
        go_wp2_with (fail)
        refine (k1 _).mono ?_
        rintro e w2 ⟨rfl, hb2⟩
        have GR : Hid (w2.heap[w.heap.size]? = some (.cells #[.int .i64 R.i, .int .u32 (R.s : Int), .int .i64 R.sl, .int .u32 (R.d : Int), .int .i64 R.dl, .int .u16 (R.p.1 : Int), .int .u16 (R.p.2 : Int), .int .u16 (R.q.1 : Int), .int .u16 (R.q.2 : Int), .int .u8 (R.m.1 : Int), .int .u8 (R.m.2 : Int), .int .i64 R.act] 32)) := blk_on HR.out hb2
        have Gh : Hid (w2.heap[w.heap.size + 1]? = some (.cells #[.int .u32 (h.s : Int), .int .u32 (h.d : Int), .int .u16 (h.p : Int), .int .u16 (h.q : Int), .int .u8 (h.r : Int)] 34)) := blk_on Hh.out hb2
        have hbl2 : Hid (Below w.heap.size w w2) := bel_step hbl1.out (bel_a0 _) hb2
        clear HR Hh R_0 R_1 R_2 R_3 R_4 R_5 R_6 R_7 R_8 R_9 R_10 R_11 h_0 h_1 h_2 h_3 h_4 lR nR lh nh hb2 hbl1
        have HR := GR
        clear GR
        have Hh := Gh
        clear Gh
        have lR := blk_lt HR.out
        have nR : ¬ w.heap.size = w2.heap.size := by omega
        have lh := blk_lt Hh.out
        have nh : ¬ w.heap.size + 1 = w2.heap.size := by omega
        cases u1
        · go_wp2_with (fail)
          go_ret
          exact ⟨ret_same (by simp), hbl2.out⟩
        · skip
          obtain ⟨R_0, R_1, R_2, R_3, R_4, R_5, R_6, R_7, R_8, R_9, R_10, R_11⟩ := blk12 HR.out
          obtain ⟨h_0, h_1, h_2, h_3, h_4⟩ := blk5 Hh.out
          go_wp2_with (fail)
          refine (k2 _).mono ?_
          rintro e w3 ⟨rfl, hb3⟩
          have GR : Hid (w3.heap[w.heap.size]? = some (.cells #[.int .i64 R.i, .int .u32 (R.s : Int), .int .i64 R.sl, .int .u32 (R.d : Int), .int .i64 R.dl, .int .u16 (R.p.1 : Int), .int .u16 (R.p.2 : Int), .int .u16 (R.q.1 : Int), .int .u16 (R.q.2 : Int), .int .u8 (R.m.1 : Int), .int .u8 (R.m.2 : Int), .int .i64 R.act] 32)) := blk_on HR.out hb3
          have Gh : Hid (w3.heap[w.heap.size + 1]? = some (.cells #[.int .u32 (h.s : Int), .int .u32 (h.d : Int), .int .u16 (h.p : Int), .int .u16 (h.q : Int), .int .u8 (h.r : Int)] 34)) := blk_on Hh.out hb3
          have hbl3 : Hid (Below w.heap.size w w3) := bel_step hbl2.out (bel_a0 _) hb3
          clear HR Hh R_0 R_1 R_2 R_3 R_4 R_5 R_6 R_7 R_8 R_9 R_10 R_11 h_0 h_1 h_2 h_3 h_4 lR nR lh nh hb3 hbl2
          have HR := GR
          clear GR
          have Hh := Gh
          clear Gh
          have lR := blk_lt HR.out
          have nR : ¬ w.heap.size = w3.heap.size := by omega
          have lh := blk_lt Hh.out
          have nh : ¬ w.heap.size + 1 = w3.heap.size := by omega
          cases u2
          · go_wp2_with (fail)
            go_ret
            exact ⟨ret_same (by simp), hbl3.out⟩
          · skip
            obtain ⟨R_0, R_1, R_2, R_3, R_4, R_5, R_6, R_7, R_8, R_9, R_10, R_11⟩ := blk12 HR.out
            obtain ⟨h_0, h_1, h_2, h_3, h_4⟩ := blk5 Hh.out
            go_wp2_with (fail)
            refine (k5 _).mono ?_
            rintro e w4 ⟨rfl, hb4⟩
            have GR : Hid (w4.heap[w.heap.size]? = some (.cells #[.int .i64 R.i, .int .u32 (R.s : Int), .int .i64 R.sl, .int .u32 (R.d : Int), .int .i64 R.dl, .int .u16 (R.p.1 : Int), .int .u16 (R.p.2 : Int), .int .u16 (R.q.1 : Int), .int .u16 (R.q.2 : Int), .int .u8 (R.m.1 : Int), .int .u8 (R.m.2 : Int), .int .i64 R.act] 32)) := blk_on HR.out hb4
            have Gh : Hid (w4.heap[w.heap.size + 1]? = some (.cells #[.int .u32 (h.s : Int), .int .u32 (h.d : Int), .int .u16 (h.p : Int), .int .u16 (h.q : Int), .int .u8 (h.r : Int)] 34)) := blk_on Hh.out hb4
            have hbl4 : Hid (Below w.heap.size w w4) := bel_step hbl3.out (bel_a0 _) hb4
            clear HR Hh R_0 R_1 R_2 R_3 R_4 R_5 R_6 R_7 R_8 R_9 R_10 R_11 h_0 h_1 h_2 h_3 h_4 lR nR lh nh hb4 hbl3
            have HR := GR
            clear GR
            have Hh := Gh
            clear Gh
            have lR := blk_lt HR.out
            have nR : ¬ w.heap.size = w4.heap.size := by omega
            have lh := blk_lt Hh.out
            have nh : ¬ w.heap.size + 1 = w4.heap.size := by omega
            go_wp2_with (fail)
            go_ret
            exact ⟨ret_same (by simp), hbl4.out⟩
def portsIn (A B : Ru) : Bool := decide (((B.p.1 : Int) ≤ A.p.1 ∧ (A.p.2 : Int) ≤ B.p.2) ∧ (B.q.1 : Int) ≤ A.q.1 ∧ (A.q.2 : Int) ≤ B.q.2)
theorem wiR_ports {A B : Ru} (ha : okR A = true) (hb : okR B = true) : wiR A B = (portsIn A B && Pf.witB A.s A.sl B.s B.sl && Pf.witB A.d A.dl B.d B.dl && wiM A.m.1 A.m.2 B.m.1 B.m.2) := by
  obtain ⟨_, a2, a3, a4, a5, a6, _⟩ := (okR_iff A).1 ha
  have a4 := of_decide_eq_true a4
  have a5 := of_decide_eq_true a5
  rw [wiR_in ha hb]
  have e : portsIn A B = (wiS A.p.1 A.p.2 B.p.1 B.p.2 && wiS A.q.1 A.q.2 B.q.1 B.q.2) := by
    unfold portsIn wiS
    rw [Bool.eq_iff_iff]
    simp only [Bool.and_eq_true, decide_eq_true_eq]
    omega
  rw [e]
  generalize Pf.witB A.s A.sl B.s B.sl = u1
  generalize Pf.witB A.d A.dl B.d B.dl = u2
  generalize wiS A.p.1 A.p.2 B.p.1 B.p.2 = u3
  generalize wiS A.q.1 A.q.2 B.q.1 B.q.2 = u4
  generalize wiM A.m.1 A.m.2 B.m.1 B.m.2 = u5
  cases u1 <;> cases u2 <;> cases u3 <;> cases u4 <;> cases u5 <;> rfl
set_option maxRecDepth 20000 in
set_option maxHeartbeats 4000000 in
theorem rwithinR (A B : Ru) (w : World) (bA : BdR A) (bB : BdR B) :
    Calls Tryz.prog 21 #[.agg #[.int .i64 A.i, .int .u32 (A.s : Int), .int .i64 A.sl, .int .u32 (A.d : Int), .int .i64 A.dl, .int .u16 (A.p.1 : Int), .int .u16 (A.p.2 : Int), .int .u16 (A.q.1 : Int), .int .u16 (A.q.2 : Int), .int .u8 (A.m.1 : Int), .int .u8 (A.m.2 : Int), .int .i64 A.act], .agg #[.int .i64 B.i, .int .u32 (B.s : Int), .int .i64 B.sl, .int .u32 (B.d : Int), .int .i64 B.dl, .int .u16 (B.p.1 : Int), .int .u16 (B.p.2 : Int), .int .u16 (B.q.1 : Int), .int .u16 (B.q.2 : Int), .int .u8 (B.m.1 : Int), .int .u8 (B.m.2 : Int), .int .i64 B.act]] w fun e w' => e = .returned (.bool (wiR A B)) ∧ Below w.heap.size w w' := by
  have hA := fun W => rmayR A W bA
  have hB := fun W => rmayR B W bB
  have HW1 : Hid (okR A = false → wiR A B = false) := fun e => wiR_out (.inl e)
  have HW2 : Hid (okR B = false → wiR A B = false) := fun e => wiR_out (.inr e)
  have HW3 : Hid (okR A = true → okR B = true → wiR A B = (portsIn A B && Pf.witB A.s A.sl B.s B.sl && Pf.witB A.d A.dl B.d B.dl && wiM A.m.1 A.m.2 B.m.1 B.m.2)) := fun e1 e2 => wiR_ports e1 e2
  obtain ⟨b1, b2, b3, b4, b5, b6, b7, b8, _⟩ := bA
  obtain ⟨d1, d2, d3, d4, d5, d6, d7, d8, _⟩ := bB
  have k1 := fun W => Pf.rwithin_any A.s A.sl B.s B.sl W b1 d1
  have k2 := fun W => Pf.rwithin_any A.d A.dl B.d B.dl W b2 d2
  have k5 := fun W => rwithinM A.m.1 A.m.2 B.m.1 B.m.2 W b7 b8 d7 d8
  have HPP : Hid (portsIn A B = decide (((B.p.1 : Int) ≤ A.p.1 ∧ (A.p.2 : Int) ≤ B.p.2) ∧ (B.q.1 : Int) ≤ A.q.1 ∧ (A.q.2 : Int) ≤ B.q.2)) := rfl
  generalize wiR A B = z at *
  generalize portsIn A B = pp at *
  generalize Pf.witB A.s A.sl B.s B.sl = u1 at *
  generalize Pf.witB A.d A.dl B.d B.dl = u2 at *
  generalize wiM A.m.1 A.m.2 B.m.1 B.m.2 = u5 at *
  generalize okR A = ua at *
  generalize okR B = ub at *
  clear b1 b2 b3 b4 b5 b6 b7 b8 d1 d2 d3 d4 d5 d6 d7 d8
  go_enter Tryz.func21, Tryz.ntmps21
  go_upto_region 1 with (fail)
  go_cut [5] (fun v wx => v = .bool pp ∧ Hid (wx = ((w.alloc (.cells #[.int .i64 A.i, .int .u32 (A.s : Int), .int .i64 A.sl, .int .u32 (A.d : Int), .int .i64 A.dl, .int .u16 (A.p.1 : Int), .int .u16 (A.p.2 : Int), .int .u16 (A.q.1 : Int), .int .u16 (A.q.2 : Int), .int .u8 (A.m.1 : Int), .int .u8 (A.m.2 : Int), .int .i64 A.act] 32)).alloc (.cells #[.int .i64 B.i, .int .u32 (B.s : Int), .int .i64 B.sl, .int .u32 (B.d : Int), .int .i64 B.dl, .int .u16 (B.p.1 : Int), .int .u16 (B.p.2 : Int), .int .u16 (B.q.1 : Int), .int .u16 (B.q.2 : Int), .int .u8 (B.m.1 : Int), .int .u8 (B.m.2 : Int), .int .i64 B.act] 32))))
  case first =>
    by_cases c0 : (B.p.1 : Int) ≤ A.p.1
    · by_cases c1 : (A.p.2 : Int) ≤ B.p.2
      · by_cases c2 : (B.q.1 : Int) ≤ A.q.1
        · by_cases c3 : (A.q.2 : Int) ≤ B.q.2
          · go_wp2_with (fail)
            go_meet
            case rel => exact ⟨by rw [HPP.out]; simp <;> omega, rfl⟩
          · go_wp2_with (fail)
            go_meet
            case rel => exact ⟨by rw [HPP.out]; simp <;> omega, rfl⟩
        · go_wp2_with (fail)
          go_meet
          case rel => exact ⟨by rw [HPP.out]; simp <;> omega, rfl⟩
      · go_wp2_with (fail)
        go_meet
        case rel => exact ⟨by rw [HPP.out]; simp <;> omega, rfl⟩
    · go_wp2_with (fail)
      go_meet
      case rel => exact ⟨by rw [HPP.out]; simp <;> omega, rfl⟩
  case rest =>
    obtain ⟨rfl, hcw⟩ := hcut
    obtain rfl := hcw.out
    clear hcw
    clear HPP
    go_wp2_with (fail)
    refine (hA _).mono ?_
    rintro e w1 ⟨rfl, hb1⟩
    have GA : Hid (w1.heap[w.heap.size]? = some (.cells #[.int .i64 A.i, .int .u32 (A.s : Int), .int .i64 A.sl, .int .u32 (A.d : Int), .int .i64 A.dl, .int .u16 (A.p.1 : Int), .int .u16 (A.p.2 : Int), .int .u16 (A.q.1 : Int), .int .u16 (A.q.2 : Int), .int .u8 (A.m.1 : Int), .int .u8 (A.m.2 : Int), .int .i64 A.act] 32)) := blk_on (blk_alloc (blk_new w (.cells #[.int .i64 A.i, .int .u32 (A.s : Int), .int .i64 A.sl, .int .u32 (A.d : Int), .int .i64 A.dl, .int .u16 (A.p.1 : Int), .int .u16 (A.p.2 : Int), .int .u16 (A.q.1 : Int), .int .u16 (A.q.2 : Int), .int .u8 (A.m.1 : Int), .int .u8 (A.m.2 : Int), .int .i64 A.act] 32)) _) hb1
    have GB : Hid (w1.heap[w.heap.size + 1]? = some (.cells #[.int .i64 B.i, .int .u32 (B.s : Int), .int .i64 B.sl, .int .u32 (B.d : Int), .int .i64 B.dl, .int .u16 (B.p.1 : Int), .int .u16 (B.p.2 : Int), .int .u16 (B.q.1 : Int), .int .u16 (B.q.2 : Int), .int .u8 (B.m.1 : Int), .int .u8 (B.m.2 : Int), .int .i64 B.act] 32)) := blk_on (by simpa using blk_new (w.alloc (.cells #[.int .i64 A.i, .int .u32 (A.s : Int), .int .i64 A.sl, .int .u32 (A.d : Int), .int .i64 A.dl, .int .u16 (A.p.1 : Int), .int .u16 (A.p.2 : Int), .int .u16 (A.q.1 : Int), .int .u16 (A.q.2 : Int), .int .u8 (A.m.1 : Int), .int .u8 (A.m.2 : Int), .int .i64 A.act] 32)) (.cells #[.int .i64 B.i, .int .u32 (B.s : Int), .int .i64 B.sl, .int .u32 (B.d : Int), .int .i64 B.dl, .int .u16 (B.p.1 : Int), .int .u16 (B.p.2 : Int), .int .u16 (B.q.1 : Int), .int .u16 (B.q.2 : Int), .int .u8 (B.m.1 : Int), .int .u8 (B.m.2 : Int), .int .i64 B.act] 32)) hb1
    have HO1 : Hid (w.heap.size + 1 < w1.heap.size) := blk_lt GB.out
    have hbl1 : Hid (Below w.heap.size w w1) := bel_step (Below.refl _ _) (bel_a2 _ _ _) hb1
    clear hb1
    have HA := GA
    clear GA
    have HB := GB
    clear GB
    have lA := blk_lt HA.out
    have nA : ¬ w.heap.size = w1.heap.size := by omega
    have lB := blk_lt HB.out
    have nB : ¬ w.heap.size + 1 = w1.heap.size := by omega
    cases ua
    · go_wp2_with (fail)
      go_ret
      exact ⟨ret_same (HW1.out (by simp)).symm, hbl1.out⟩
    · skip
      obtain ⟨B_0, B_1, B_2, B_3, B_4, B_5, B_6, B_7, B_8, B_9, B_10, B_11⟩ := blk12 HB.out
      go_wp2_with (fail)
      refine (hB _).mono ?_
      rintro e w2 ⟨rfl, hb2⟩
      have GA : Hid (w2.heap[w.heap.size]? = some (.cells #[.int .i64 A.i, .int .u32 (A.s : Int), .int .i64 A.sl, .int .u32 (A.d : Int), .int .i64 A.dl, .int .u16 (A.p.1 : Int), .int .u16 (A.p.2 : Int), .int .u16 (A.q.1 : Int), .int .u16 (A.q.2 : Int), .int .u8 (A.m.1 : Int), .int .u8 (A.m.2 : Int), .int .i64 A.act] 32)) := blk_on HA.out hb2
      have GB : Hid (w2.heap[w.heap.size + 1]? = some (.cells #[.int .i64 B.i, .int .u32 (B.s : Int), .int .i64 B.sl, .int .u32 (B.d : Int), .int .i64 B.dl, .int .u16 (B.p.1 : Int), .int .u16 (B.p.2 : Int), .int .u16 (B.q.1 : Int), .int .u16 (B.q.2 : Int), .int .u8 (B.m.1 : Int), .int .u8 (B.m.2 : Int), .int .i64 B.act] 32)) := blk_on HB.out hb2
      have hbl2 : Hid (Below w.heap.size w w2) := bel_step hbl1.out (bel_a0 _) hb2
      clear HA HB B_0 B_1 B_2 B_3 B_4 B_5 B_6 B_7 B_8 B_9 B_10 B_11 lA nA lB nB hb2 hbl1
      have HA := GA
      clear GA
      have HB := GB
      clear GB
      have lA := blk_lt HA.out
      have nA : ¬ w.heap.size = w2.heap.size := by omega
      have lB := blk_lt HB.out
      have nB : ¬ w.heap.size + 1 = w2.heap.size := by omega
      cases ub
      · go_wp2_with (fail)
        go_ret
        exact ⟨ret_same (HW2.out (by simp)).symm, hbl2.out⟩
      · skip
        have hz3 := HW3.out (by simp) (by simp)
        subst hz3
        clear HW1 HW2 HW3
        cases pp
        · go_wp2_with (fail)
          go_ret
          exact ⟨ret_same (by simp), hbl2.out⟩
        · skip
          obtain ⟨A_0, A_1, A_2, A_3, A_4, A_5, A_6, A_7, A_8, A_9, A_10, A_11⟩ := blk12 HA.out
          obtain ⟨B_0, B_1, B_2, B_3, B_4, B_5, B_6, B_7, B_8, B_9, B_10, B_11⟩ := blk12 HB.out
          go_wp2_with (fail)
          refine (k1 _).mono ?_
          rintro e w3 ⟨rfl, hb3⟩
          have GA : Hid (w3.heap[w.heap.size]? = some (.cells #[.int .i64 A.i, .int .u32 (A.s : Int), .int .i64 A.sl, .int .u32 (A.d : Int), .int .i64 A.dl, .int .u16 (A.p.1 : Int), .int .u16 (A.p.2 : Int), .int .u16 (A.q.1 : Int), .int .u16 (A.q.2 : Int), .int .u8 (A.m.1 : Int), .int .u8 (A.m.2 : Int), .int .i64 A.act] 32)) := blk_on HA.out hb3
          have GB : Hid (w3.heap[w.heap.size + 1]? = some (.cells #[.int .i64 B.i, .int .u32 (B.s : Int), .int .i64 B.sl, .int .u32 (B.d : Int), .int .i64 B.dl, .int .u16 (B.p.1 : Int), .int .u16 (B.p.2 : Int), .int .u16 (B.q.1 : Int), .int .u16 (B.q.2 : Int), .int .u8 (B.m.1 : Int), .int .u8 (B.m.2 : Int), .int .i64 B.act] 32)) := blk_on HB.out hb3
          have hbl3 : Hid (Below w.heap.size w w3) := bel_step hbl2.out (bel_a0 _) hb3
          clear HA HB A_0 A_1 A_2 A_3 A_4 A_5 A_6 A_7 A_8 A_9 A_10 A_11 B_0 B_1 B_2 B_3 B_4 B_5 B_6 B_7 B_8 B_9 B_10 B_11 lA nA lB nB hb3 hbl2
          have HA := GA
          clear GA
          have HB := GB
          clear GB
          have lA := blk_lt HA.out
          have nA : ¬ w.heap.size = w3.heap.size := by omega
          have lB := blk_lt HB.out
          have nB : ¬ w.heap.size + 1 = w3.heap.size := by omega
          cases u1
          · go_wp2_with (fail)
            go_ret
            exact ⟨ret_same (by simp), hbl3.out⟩
          · skip
            obtain ⟨A_0, A_1, A_2, A_3, A_4, A_5, A_6, A_7, A_8, A_9, A_10, A_11⟩ := blk12 HA.out
            obtain ⟨B_0, B_1, B_2, B_3, B_4, B_5, B_6, B_7, B_8, B_9, B_10, B_11⟩ := blk12 HB.out
            go_wp2_with (fail)
            refine (k2 _).mono ?_
            rintro e w4 ⟨rfl, hb4⟩
            have GA : Hid (w4.heap[w.heap.size]? = some (.cells #[.int .i64 A.i, .int .u32 (A.s : Int), .int .i64 A.sl, .int .u32 (A.d : Int), .int .i64 A.dl, .int .u16 (A.p.1 : Int), .int .u16 (A.p.2 : Int), .int .u16 (A.q.1 : Int), .int .u16 (A.q.2 : Int), .int .u8 (A.m.1 : Int), .int .u8 (A.m.2 : Int), .int .i64 A.act] 32)) := blk_on HA.out hb4
            have GB : Hid (w4.heap[w.heap.size + 1]? = some (.cells #[.int .i64 B.i, .int .u32 (B.s : Int), .int .i64 B.sl, .int .u32 (B.d : Int), .int .i64 B.dl, .int .u16 (B.p.1 : Int), .int .u16 (B.p.2 : Int), .int .u16 (B.q.1 : Int), .int .u16 (B.q.2 : Int), .int .u8 (B.m.1 : Int), .int .u8 (B.m.2 : Int), .int .i64 B.act] 32)) := blk_on HB.out hb4
            have hbl4 : Hid (Below w.heap.size w w4) := bel_step hbl3.out (bel_a0 _) hb4
            clear HA HB A_0 A_1 A_2 A_3 A_4 A_5 A_6 A_7 A_8 A_9 A_10 A_11 B_0 B_1 B_2 B_3 B_4 B_5 B_6 B_7 B_8 B_9 B_10 B_11 lA nA lB nB hb4 hbl3
            have HA := GA
            clear GA
            have HB := GB
            clear GB
            have lA := blk_lt HA.out
            have nA : ¬ w.heap.size = w4.heap.size := by omega
            have lB := blk_lt HB.out
            have nB : ¬ w.heap.size + 1 = w4.heap.size := by omega
            cases u2
            · go_wp2_with (fail)
              go_ret
              exact ⟨ret_same (by simp), hbl4.out⟩
            · skip
              obtain ⟨A_0, A_1, A_2, A_3, A_4, A_5, A_6, A_7, A_8, A_9, A_10, A_11⟩ := blk12 HA.out
              obtain ⟨B_0, B_1, B_2, B_3, B_4, B_5, B_6, B_7, B_8, B_9, B_10, B_11⟩ := blk12 HB.out
              go_wp2_with (fail)
              refine (k5 _).mono ?_
              rintro e w5 ⟨rfl, hb5⟩
              have GA : Hid (w5.heap[w.heap.size]? = some (.cells #[.int .i64 A.i, .int .u32 (A.s : Int), .int .i64 A.sl, .int .u32 (A.d : Int), .int .i64 A.dl, .int .u16 (A.p.1 : Int), .int .u16 (A.p.2 : Int), .int .u16 (A.q.1 : Int), .int .u16 (A.q.2 : Int), .int .u8 (A.m.1 : Int), .int .u8 (A.m.2 : Int), .int .i64 A.act] 32)) := blk_on HA.out hb5
              have GB : Hid (w5.heap[w.heap.size + 1]? = some (.cells #[.int .i64 B.i, .int .u32 (B.s : Int), .int .i64 B.sl, .int .u32 (B.d : Int), .int .i64 B.dl, .int .u16 (B.p.1 : Int), .int .u16 (B.p.2 : Int), .int .u16 (B.q.1 : Int), .int .u16 (B.q.2 : Int), .int .u8 (B.m.1 : Int), .int .u8 (B.m.2 : Int), .int .i64 B.act] 32)) := blk_on HB.out hb5
              have hbl5 : Hid (Below w.heap.size w w5) := bel_step hbl4.out (bel_a0 _) hb5
              clear HA HB A_0 A_1 A_2 A_3 A_4 A_5 A_6 A_7 A_8 A_9 A_10 A_11 B_0 B_1 B_2 B_3 B_4 B_5 B_6 B_7 B_8 B_9 B_10 B_11 lA nA lB nB hb5 hbl4
              have HA := GA
              clear GA
              have HB := GB
              clear GB
              have lA := blk_lt HA.out
              have nA : ¬ w.heap.size = w5.heap.size := by omega
              have lB := blk_lt HB.out
              have nB : ¬ w.heap.size + 1 = w5.heap.size := by omega
              go_wp2_with (fail)
              go_ret
              exact ⟨ret_same (by simp), hbl5.out⟩
theorem max_natR (a b : Nat) : max (a : Int) (b : Int) = ((max a b : Nat) : Int) := by omega
set_option maxRecDepth 20000 in
set_option maxHeartbeats 8000000 in
theorem rmeetsR (A B : Ru) (w : World) (bA : BdR A) (bB : BdR B) :
    Calls Tryz.prog 19 #[.agg #[.int .i64 A.i, .int .u32 (A.s : Int), .int .i64 A.sl, .int .u32 (A.d : Int), .int .i64 A.dl, .int .u16 (A.p.1 : Int), .int .u16 (A.p.2 : Int), .int .u16 (A.q.1 : Int), .int .u16 (A.q.2 : Int), .int .u8 (A.m.1 : Int), .int .u8 (A.m.2 : Int), .int .i64 A.act], .agg #[.int .i64 B.i, .int .u32 (B.s : Int), .int .i64 B.sl, .int .u32 (B.d : Int), .int .i64 B.dl, .int .u16 (B.p.1 : Int), .int .u16 (B.p.2 : Int), .int .u16 (B.q.1 : Int), .int .u16 (B.q.2 : Int), .int .u8 (B.m.1 : Int), .int .u8 (B.m.2 : Int), .int .i64 B.act]] w fun e w' => e = .returned (.tuple #[.agg #[.int .u32 ((meetR A B).s : Int), .int .u32 ((meetR A B).d : Int), .int .u16 ((meetR A B).p : Int), .int .u16 ((meetR A B).q : Int), .int .u8 ((meetR A B).r : Int)], .bool (bothR A B)]) ∧ Below w.heap.size w w' := by
  have hA := fun W => rmayR A W bA
  have hB := fun W => rmayR B W bB
  cases ha : okR A
  · have hf := bothR_no (A := A) (B := B) (.inl ha)
    rw [meetH_no hf, hf]
    rw [ha] at hA
    clear ha bA bB hf hB
    go_enter Tryz.func19, Tryz.ntmps19
    go_wp2_with (fail)
    refine (hA _).mono ?_
    rintro e w1 ⟨rfl, hb1⟩
    have GA : Hid (w1.heap[w.heap.size]? = some (.cells #[.int .i64 A.i, .int .u32 (A.s : Int), .int .i64 A.sl, .int .u32 (A.d : Int), .int .i64 A.dl, .int .u16 (A.p.1 : Int), .int .u16 (A.p.2 : Int), .int .u16 (A.q.1 : Int), .int .u16 (A.q.2 : Int), .int .u8 (A.m.1 : Int), .int .u8 (A.m.2 : Int), .int .i64 A.act] 32)) := blk_on (blk_alloc (blk_alloc (blk_new w (.cells #[.int .i64 A.i, .int .u32 (A.s : Int), .int .i64 A.sl, .int .u32 (A.d : Int), .int .i64 A.dl, .int .u16 (A.p.1 : Int), .int .u16 (A.p.2 : Int), .int .u16 (A.q.1 : Int), .int .u16 (A.q.2 : Int), .int .u8 (A.m.1 : Int), .int .u8 (A.m.2 : Int), .int .i64 A.act] 32)) _) _) hb1
    have GB : Hid (w1.heap[w.heap.size + 1]? = some (.cells #[.int .i64 B.i, .int .u32 (B.s : Int), .int .i64 B.sl, .int .u32 (B.d : Int), .int .i64 B.dl, .int .u16 (B.p.1 : Int), .int .u16 (B.p.2 : Int), .int .u16 (B.q.1 : Int), .int .u16 (B.q.2 : Int), .int .u8 (B.m.1 : Int), .int .u8 (B.m.2 : Int), .int .i64 B.act] 32)) := blk_on (blk_alloc (by simpa using blk_new (w.alloc (.cells #[.int .i64 A.i, .int .u32 (A.s : Int), .int .i64 A.sl, .int .u32 (A.d : Int), .int .i64 A.dl, .int .u16 (A.p.1 : Int), .int .u16 (A.p.2 : Int), .int .u16 (A.q.1 : Int), .int .u16 (A.q.2 : Int), .int .u8 (A.m.1 : Int), .int .u8 (A.m.2 : Int), .int .i64 A.act] 32)) (.cells #[.int .i64 B.i, .int .u32 (B.s : Int), .int .i64 B.sl, .int .u32 (B.d : Int), .int .i64 B.dl, .int .u16 (B.p.1 : Int), .int .u16 (B.p.2 : Int), .int .u16 (B.q.1 : Int), .int .u16 (B.q.2 : Int), .int .u8 (B.m.1 : Int), .int .u8 (B.m.2 : Int), .int .i64 B.act] 32)) _) hb1
    have GZ : Hid (w1.heap[w.heap.size + 1 + 1]? = some (.cells #[.int .u32 0, .int .u32 0, .int .u16 0, .int .u16 0, .int .u8 0] 34)) := blk_on (by simpa using blk_new ((w.alloc (.cells #[.int .i64 A.i, .int .u32 (A.s : Int), .int .i64 A.sl, .int .u32 (A.d : Int), .int .i64 A.dl, .int .u16 (A.p.1 : Int), .int .u16 (A.p.2 : Int), .int .u16 (A.q.1 : Int), .int .u16 (A.q.2 : Int), .int .u8 (A.m.1 : Int), .int .u8 (A.m.2 : Int), .int .i64 A.act] 32)).alloc (.cells #[.int .i64 B.i, .int .u32 (B.s : Int), .int .i64 B.sl, .int .u32 (B.d : Int), .int .i64 B.dl, .int .u16 (B.p.1 : Int), .int .u16 (B.p.2 : Int), .int .u16 (B.q.1 : Int), .int .u16 (B.q.2 : Int), .int .u8 (B.m.1 : Int), .int .u8 (B.m.2 : Int), .int .i64 B.act] 32)) (.cells #[.int .u32 0, .int .u32 0, .int .u16 0, .int .u16 0, .int .u8 0] 34)) hb1
    have HO1 : Hid (w.heap.size + 1 + 1 < w1.heap.size) := blk_lt GZ.out
    have hbl1 : Hid (Below w.heap.size w w1) := bel_step (Below.refl _ _) (bel_a3 _ _ _ _) hb1
    clear hb1
    have HA := GA
    clear GA
    have HB := GB
    clear GB
    have HZ := GZ
    clear GZ
    have lA := blk_lt HA.out
    have nA : ¬ w.heap.size = w1.heap.size := by omega
    have lB := blk_lt HB.out
    have nB : ¬ w.heap.size + 1 = w1.heap.size := by omega
    have lZ := blk_lt HZ.out
    have nZ : ¬ w.heap.size + 1 + 1 = w1.heap.size := by omega
    have hZZ : (w1).heap[w.heap.size + 1 + 1]? = some (.cells #[.int .u32 0, .int .u32 0, .int .u16 0, .int .u16 0, .int .u8 0] 34) := HZ.out
    go_wp2_with (refine wpList_store_blk rfl 34 (.tmp 4) (.tmp 17) rfl (w.heap.size + 1 + 1) 0 #[.int .u32 0, .int .u32 0, .int .u16 0, .int .u16 0, .int .u8 0] #[.int .u32 0, .int .u32 0, .int .u16 0, .int .u16 0, .int .u8 0] rfl rfl 34 _ hZZ (Nat.le_of_ble_eq_true rfl) rfl (by kernel_rfl) rfl ?_; intro w8 hw8 how8)
    have hbl9 : Below w.heap.size w w8 := (bel_step hbl1.out (bel_a0 _) (Below.refl _ _)).trans (how8.below (by omega))
    exact bodyPost_ret (results_blk2 Tryz.results19 rfl hw8 Tryz.underlying34 rfl (by kernel_rfl)) rfl ⟨rfl, hbl9⟩
  · rw [ha] at hA
    cases hb : okR B
    · have hf := bothR_no (A := A) (B := B) (.inr hb)
      rw [meetH_no hf, hf]
      rw [hb] at hB
      clear ha hb bA bB hf
      go_enter Tryz.func19, Tryz.ntmps19
      go_wp2_with (fail)
      refine (hA _).mono ?_
      rintro e w1 ⟨rfl, hb1⟩
      have GA : Hid (w1.heap[w.heap.size]? = some (.cells #[.int .i64 A.i, .int .u32 (A.s : Int), .int .i64 A.sl, .int .u32 (A.d : Int), .int .i64 A.dl, .int .u16 (A.p.1 : Int), .int .u16 (A.p.2 : Int), .int .u16 (A.q.1 : Int), .int .u16 (A.q.2 : Int), .int .u8 (A.m.1 : Int), .int .u8 (A.m.2 : Int), .int .i64 A.act] 32)) := blk_on (blk_alloc (blk_alloc (blk_new w (.cells #[.int .i64 A.i, .int .u32 (A.s : Int), .int .i64 A.sl, .int .u32 (A.d : Int), .int .i64 A.dl, .int .u16 (A.p.1 : Int), .int .u16 (A.p.2 : Int), .int .u16 (A.q.1 : Int), .int .u16 (A.q.2 : Int), .int .u8 (A.m.1 : Int), .int .u8 (A.m.2 : Int), .int .i64 A.act] 32)) _) _) hb1
      have GB : Hid (w1.heap[w.heap.size + 1]? = some (.cells #[.int .i64 B.i, .int .u32 (B.s : Int), .int .i64 B.sl, .int .u32 (B.d : Int), .int .i64 B.dl, .int .u16 (B.p.1 : Int), .int .u16 (B.p.2 : Int), .int .u16 (B.q.1 : Int), .int .u16 (B.q.2 : Int), .int .u8 (B.m.1 : Int), .int .u8 (B.m.2 : Int), .int .i64 B.act] 32)) := blk_on (blk_alloc (by simpa using blk_new (w.alloc (.cells #[.int .i64 A.i, .int .u32 (A.s : Int), .int .i64 A.sl, .int .u32 (A.d : Int), .int .i64 A.dl, .int .u16 (A.p.1 : Int), .int .u16 (A.p.2 : Int), .int .u16 (A.q.1 : Int), .int .u16 (A.q.2 : Int), .int .u8 (A.m.1 : Int), .int .u8 (A.m.2 : Int), .int .i64 A.act] 32)) (.cells #[.int .i64 B.i, .int .u32 (B.s : Int), .int .i64 B.sl, .int .u32 (B.d : Int), .int .i64 B.dl, .int .u16 (B.p.1 : Int), .int .u16 (B.p.2 : Int), .int .u16 (B.q.1 : Int), .int .u16 (B.q.2 : Int), .int .u8 (B.m.1 : Int), .int .u8 (B.m.2 : Int), .int .i64 B.act] 32)) _) hb1
      have GZ : Hid (w1.heap[w.heap.size + 1 + 1]? = some (.cells #[.int .u32 0, .int .u32 0, .int .u16 0, .int .u16 0, .int .u8 0] 34)) := blk_on (by simpa using blk_new ((w.alloc (.cells #[.int .i64 A.i, .int .u32 (A.s : Int), .int .i64 A.sl, .int .u32 (A.d : Int), .int .i64 A.dl, .int .u16 (A.p.1 : Int), .int .u16 (A.p.2 : Int), .int .u16 (A.q.1 : Int), .int .u16 (A.q.2 : Int), .int .u8 (A.m.1 : Int), .int .u8 (A.m.2 : Int), .int .i64 A.act] 32)).alloc (.cells #[.int .i64 B.i, .int .u32 (B.s : Int), .int .i64 B.sl, .int .u32 (B.d : Int), .int .i64 B.dl, .int .u16 (B.p.1 : Int), .int .u16 (B.p.2 : Int), .int .u16 (B.q.1 : Int), .int .u16 (B.q.2 : Int), .int .u8 (B.m.1 : Int), .int .u8 (B.m.2 : Int), .int .i64 B.act] 32)) (.cells #[.int .u32 0, .int .u32 0, .int .u16 0, .int .u16 0, .int .u8 0] 34)) hb1
      have HO1 : Hid (w.heap.size + 1 + 1 < w1.heap.size) := blk_lt GZ.out
      have hbl1 : Hid (Below w.heap.size w w1) := bel_step (Below.refl _ _) (bel_a3 _ _ _ _) hb1
      clear hb1
      have HA := GA
      clear GA
      have HB := GB
      clear GB
      have HZ := GZ
      clear GZ
      have lA := blk_lt HA.out
      have nA : ¬ w.heap.size = w1.heap.size := by omega
      have lB := blk_lt HB.out
      have nB : ¬ w.heap.size + 1 = w1.heap.size := by omega
      have lZ := blk_lt HZ.out
      have nZ : ¬ w.heap.size + 1 + 1 = w1.heap.size := by omega
      obtain ⟨B_0, B_1, B_2, B_3, B_4, B_5, B_6, B_7, B_8, B_9, B_10, B_11⟩ := blk12 HB.out
      go_wp2_with (fail)
      refine (hB _).mono ?_
      rintro e w2 ⟨rfl, hb2⟩
      have GA : Hid (w2.heap[w.heap.size]? = some (.cells #[.int .i64 A.i, .int .u32 (A.s : Int), .int .i64 A.sl, .int .u32 (A.d : Int), .int .i64 A.dl, .int .u16 (A.p.1 : Int), .int .u16 (A.p.2 : Int), .int .u16 (A.q.1 : Int), .int .u16 (A.q.2 : Int), .int .u8 (A.m.1 : Int), .int .u8 (A.m.2 : Int), .int .i64 A.act] 32)) := blk_on HA.out hb2
      have GB : Hid (w2.heap[w.heap.size + 1]? = some (.cells #[.int .i64 B.i, .int .u32 (B.s : Int), .int .i64 B.sl, .int .u32 (B.d : Int), .int .i64 B.dl, .int .u16 (B.p.1 : Int), .int .u16 (B.p.2 : Int), .int .u16 (B.q.1 : Int), .int .u16 (B.q.2 : Int), .int .u8 (B.m.1 : Int), .int .u8 (B.m.2 : Int), .int .i64 B.act] 32)) := blk_on HB.out hb2
      have GZ : Hid (w2.heap[w.heap.size + 1 + 1]? = some (.cells #[.int .u32 0, .int .u32 0, .int .u16 0, .int .u16 0, .int .u8 0] 34)) := blk_on HZ.out hb2
      have hbl2 : Hid (Below w.heap.size w w2) := bel_step hbl1.out (bel_a0 _) hb2
      clear HA HB HZ B_0 B_1 B_2 B_3 B_4 B_5 B_6 B_7 B_8 B_9 B_10 B_11 lA nA lB nB lZ nZ hb2 hbl1
      have HA := GA
      clear GA
      have HB := GB
      clear GB
      have HZ := GZ
      clear GZ
      have lA := blk_lt HA.out
      have nA : ¬ w.heap.size = w2.heap.size := by omega
      have lB := blk_lt HB.out
      have nB : ¬ w.heap.size + 1 = w2.heap.size := by omega
      have lZ := blk_lt HZ.out
      have nZ : ¬ w.heap.size + 1 + 1 = w2.heap.size := by omega
      have hZZ : (w2).heap[w.heap.size + 1 + 1]? = some (.cells #[.int .u32 0, .int .u32 0, .int .u16 0, .int .u16 0, .int .u8 0] 34) := HZ.out
      go_wp2_with (refine wpList_store_blk rfl 34 (.tmp 4) (.tmp 17) rfl (w.heap.size + 1 + 1) 0 #[.int .u32 0, .int .u32 0, .int .u16 0, .int .u16 0, .int .u8 0] #[.int .u32 0, .int .u32 0, .int .u16 0, .int .u16 0, .int .u8 0] rfl rfl 34 _ hZZ (Nat.le_of_ble_eq_true rfl) rfl (by kernel_rfl) rfl ?_; intro w8 hw8 how8)
      have hbl9 : Below w.heap.size w w8 := (bel_step hbl2.out (bel_a0 _) (Below.refl _ _)).trans (how8.below (by omega))
      exact bodyPost_ret (results_blk2 Tryz.results19 rfl hw8 Tryz.underlying34 rfl (by kernel_rfl)) rfl ⟨rfl, hbl9⟩
    · rw [hb] at hB
      have ma := ((okR_iff A).1 ha).2.2.2.2.2.1
      have mb := ((okR_iff B).1 hb).2.2.2.2.2.1
      have hbl := both_least (okX_box ha) (okX_box hb)
      have hbo : bothR A B = bothX (boxR A) (boxR B) := by unfold bothR; rw [ha, hb]; rfl
      cases hap : apM A.m.1 A.m.2 B.m.1 B.m.2
      · have hK := fun W => rmeet_yes A.m.1 A.m.2 B.m.1 B.m.2 W bA.2.2.2.2.2.2.1 bA.2.2.2.2.2.2.2.1 bB.2.2.2.2.2.2.1 bB.2.2.2.2.2.2.2.1 (by rw [ma, mb, hap]; rfl)
        obtain ⟨H, hH⟩ : ∃ H : Hd, H = leastX (meetB (boxR A) (boxR B)) := ⟨_, rfl⟩
        have oH : OkH H := by
          rw [hH]
          obtain ⟨x1, x2, x3, x4, x5, x6, x7, x8, x9, x0⟩ := meetB_bd (boxR_bd bA ha) (boxR_bd bB hb)
          exact ⟨x1, x3, x5, x7, x9⟩
        have f0 : max (A.s : Int) (B.s : Int) = (H.s : Int) := by rw [hH]; exact max_natR _ _
        have f1 : max (A.d : Int) (B.d : Int) = (H.d : Int) := by rw [hH]; exact max_natR _ _
        have f2 : max (A.p.1 : Int) (B.p.1 : Int) = (H.p : Int) := by rw [hH]; exact max_natR _ _
        have f3 : max (A.q.1 : Int) (B.q.1 : Int) = (H.q : Int) := by rw [hH]; exact max_natR _ _
        have hr : A.m.1 ||| B.m.1 = H.r := by rw [hH]; rfl
        rw [hr] at hK
        have mA := fun W => rmatchR A H W bA oH
        have mB := fun W => rmatchR B H W bB oH
        have hbx : bothR A B = (matchR A H && matchR B H) := by
          rw [hbo, hbl]
          unfold matchR hasH
          rw [ha, hb, hH, Bool.true_and, Bool.true_and]
          show (!apM A.m.1 A.m.2 B.m.1 B.m.2 && _) = _
          rw [hap]
          rfl
        have HN : Hid ((matchR A H && matchR B H) = false → meetR A B = ⟨0, 0, 0, 0, 0⟩) := fun e => meetH_no (by rw [hbx]; exact e)
        have HY : Hid ((matchR A H && matchR B H) = true → meetR A B = H) := fun e => by
          show meetR A B = H
          unfold meetR
          rw [if_pos (by rw [hbx]; exact e), hH]
        have HM : Hid ((matchR A H && matchR B H) = false → bothR A B = false) := fun e => by show _ = _; rw [hbx]; exact e
        have HM2 : Hid ((matchR A H && matchR B H) = true → bothR A B = true) := fun e => by show _ = _; rw [hbx]; exact e
        generalize meetR A B = Q at *
        generalize bothR A B = q at *
        generalize matchR A H = u at *
        generalize matchR B H = v at *
        generalize A.m.2 ||| B.m.2 = kc at *
        clear ha hb bA bB ma mb hbl hbo hap oH hr hbx hH
        go_enter Tryz.func19, Tryz.ntmps19
        go_wp2_with (fail)
        refine (hA _).mono ?_
        rintro e w1 ⟨rfl, hb1⟩
        have GA : Hid (w1.heap[w.heap.size]? = some (.cells #[.int .i64 A.i, .int .u32 (A.s : Int), .int .i64 A.sl, .int .u32 (A.d : Int), .int .i64 A.dl, .int .u16 (A.p.1 : Int), .int .u16 (A.p.2 : Int), .int .u16 (A.q.1 : Int), .int .u16 (A.q.2 : Int), .int .u8 (A.m.1 : Int), .int .u8 (A.m.2 : Int), .int .i64 A.act] 32)) := blk_on (blk_alloc (blk_alloc (blk_new w (.cells #[.int .i64 A.i, .int .u32 (A.s : Int), .int .i64 A.sl, .int .u32 (A.d : Int), .int .i64 A.dl, .int .u16 (A.p.1 : Int), .int .u16 (A.p.2 : Int), .int .u16 (A.q.1 : Int), .int .u16 (A.q.2 : Int), .int .u8 (A.m.1 : Int), .int .u8 (A.m.2 : Int), .int .i64 A.act] 32)) _) _) hb1
        have GB : Hid (w1.heap[w.heap.size + 1]? = some (.cells #[.int .i64 B.i, .int .u32 (B.s : Int), .int .i64 B.sl, .int .u32 (B.d : Int), .int .i64 B.dl, .int .u16 (B.p.1 : Int), .int .u16 (B.p.2 : Int), .int .u16 (B.q.1 : Int), .int .u16 (B.q.2 : Int), .int .u8 (B.m.1 : Int), .int .u8 (B.m.2 : Int), .int .i64 B.act] 32)) := blk_on (blk_alloc (by simpa using blk_new (w.alloc (.cells #[.int .i64 A.i, .int .u32 (A.s : Int), .int .i64 A.sl, .int .u32 (A.d : Int), .int .i64 A.dl, .int .u16 (A.p.1 : Int), .int .u16 (A.p.2 : Int), .int .u16 (A.q.1 : Int), .int .u16 (A.q.2 : Int), .int .u8 (A.m.1 : Int), .int .u8 (A.m.2 : Int), .int .i64 A.act] 32)) (.cells #[.int .i64 B.i, .int .u32 (B.s : Int), .int .i64 B.sl, .int .u32 (B.d : Int), .int .i64 B.dl, .int .u16 (B.p.1 : Int), .int .u16 (B.p.2 : Int), .int .u16 (B.q.1 : Int), .int .u16 (B.q.2 : Int), .int .u8 (B.m.1 : Int), .int .u8 (B.m.2 : Int), .int .i64 B.act] 32)) _) hb1
        have GZ : Hid (w1.heap[w.heap.size + 1 + 1]? = some (.cells #[.int .u32 0, .int .u32 0, .int .u16 0, .int .u16 0, .int .u8 0] 34)) := blk_on (by simpa using blk_new ((w.alloc (.cells #[.int .i64 A.i, .int .u32 (A.s : Int), .int .i64 A.sl, .int .u32 (A.d : Int), .int .i64 A.dl, .int .u16 (A.p.1 : Int), .int .u16 (A.p.2 : Int), .int .u16 (A.q.1 : Int), .int .u16 (A.q.2 : Int), .int .u8 (A.m.1 : Int), .int .u8 (A.m.2 : Int), .int .i64 A.act] 32)).alloc (.cells #[.int .i64 B.i, .int .u32 (B.s : Int), .int .i64 B.sl, .int .u32 (B.d : Int), .int .i64 B.dl, .int .u16 (B.p.1 : Int), .int .u16 (B.p.2 : Int), .int .u16 (B.q.1 : Int), .int .u16 (B.q.2 : Int), .int .u8 (B.m.1 : Int), .int .u8 (B.m.2 : Int), .int .i64 B.act] 32)) (.cells #[.int .u32 0, .int .u32 0, .int .u16 0, .int .u16 0, .int .u8 0] 34)) hb1
        have HO1 : Hid (w.heap.size + 1 + 1 < w1.heap.size) := blk_lt GZ.out
        have hbl1 : Hid (Below w.heap.size w w1) := bel_step (Below.refl _ _) (bel_a3 _ _ _ _) hb1
        clear hb1
        have HA := GA
        clear GA
        have HB := GB
        clear GB
        have HZ := GZ
        clear GZ
        have lA := blk_lt HA.out
        have nA : ¬ w.heap.size = w1.heap.size := by omega
        have lB := blk_lt HB.out
        have nB : ¬ w.heap.size + 1 = w1.heap.size := by omega
        have lZ := blk_lt HZ.out
        have nZ : ¬ w.heap.size + 1 + 1 = w1.heap.size := by omega
        obtain ⟨B_0, B_1, B_2, B_3, B_4, B_5, B_6, B_7, B_8, B_9, B_10, B_11⟩ := blk12 HB.out
        go_wp2_with (fail)
        refine (hB _).mono ?_
        rintro e w2 ⟨rfl, hb2⟩
        have GA : Hid (w2.heap[w.heap.size]? = some (.cells #[.int .i64 A.i, .int .u32 (A.s : Int), .int .i64 A.sl, .int .u32 (A.d : Int), .int .i64 A.dl, .int .u16 (A.p.1 : Int), .int .u16 (A.p.2 : Int), .int .u16 (A.q.1 : Int), .int .u16 (A.q.2 : Int), .int .u8 (A.m.1 : Int), .int .u8 (A.m.2 : Int), .int .i64 A.act] 32)) := blk_on HA.out hb2
        have GB : Hid (w2.heap[w.heap.size + 1]? = some (.cells #[.int .i64 B.i, .int .u32 (B.s : Int), .int .i64 B.sl, .int .u32 (B.d : Int), .int .i64 B.dl, .int .u16 (B.p.1 : Int), .int .u16 (B.p.2 : Int), .int .u16 (B.q.1 : Int), .int .u16 (B.q.2 : Int), .int .u8 (B.m.1 : Int), .int .u8 (B.m.2 : Int), .int .i64 B.act] 32)) := blk_on HB.out hb2
        have GZ : Hid (w2.heap[w.heap.size + 1 + 1]? = some (.cells #[.int .u32 0, .int .u32 0, .int .u16 0, .int .u16 0, .int .u8 0] 34)) := blk_on HZ.out hb2
        have hbl2 : Hid (Below w.heap.size w w2) := bel_step hbl1.out (bel_a0 _) hb2
        clear HA HB HZ B_0 B_1 B_2 B_3 B_4 B_5 B_6 B_7 B_8 B_9 B_10 B_11 lA nA lB nB lZ nZ hb2 hbl1
        have HA := GA
        clear GA
        have HB := GB
        clear GB
        have HZ := GZ
        clear GZ
        have lA := blk_lt HA.out
        have nA : ¬ w.heap.size = w2.heap.size := by omega
        have lB := blk_lt HB.out
        have nB : ¬ w.heap.size + 1 = w2.heap.size := by omega
        have lZ := blk_lt HZ.out
        have nZ : ¬ w.heap.size + 1 + 1 = w2.heap.size := by omega
        obtain ⟨A_0, A_1, A_2, A_3, A_4, A_5, A_6, A_7, A_8, A_9, A_10, A_11⟩ := blk12 HA.out
        obtain ⟨B_0, B_1, B_2, B_3, B_4, B_5, B_6, B_7, B_8, B_9, B_10, B_11⟩ := blk12 HB.out
        go_wp2_with (fail)
        refine (hK _).mono ?_
        rintro e w3 ⟨rfl, hb3⟩
        have GA : Hid (w3.heap[w.heap.size]? = some (.cells #[.int .i64 A.i, .int .u32 (A.s : Int), .int .i64 A.sl, .int .u32 (A.d : Int), .int .i64 A.dl, .int .u16 (A.p.1 : Int), .int .u16 (A.p.2 : Int), .int .u16 (A.q.1 : Int), .int .u16 (A.q.2 : Int), .int .u8 (A.m.1 : Int), .int .u8 (A.m.2 : Int), .int .i64 A.act] 32)) := blk_on HA.out hb3
        have GB : Hid (w3.heap[w.heap.size + 1]? = some (.cells #[.int .i64 B.i, .int .u32 (B.s : Int), .int .i64 B.sl, .int .u32 (B.d : Int), .int .i64 B.dl, .int .u16 (B.p.1 : Int), .int .u16 (B.p.2 : Int), .int .u16 (B.q.1 : Int), .int .u16 (B.q.2 : Int), .int .u8 (B.m.1 : Int), .int .u8 (B.m.2 : Int), .int .i64 B.act] 32)) := blk_on HB.out hb3
        have GZ : Hid (w3.heap[w.heap.size + 1 + 1]? = some (.cells #[.int .u32 0, .int .u32 0, .int .u16 0, .int .u16 0, .int .u8 0] 34)) := blk_on HZ.out hb3
        have hbl3 : Hid (Below w.heap.size w w3) := bel_step hbl2.out (bel_a0 _) hb3
        clear HA HB HZ A_0 A_1 A_2 A_3 A_4 A_5 A_6 A_7 A_8 A_9 A_10 A_11 B_0 B_1 B_2 B_3 B_4 B_5 B_6 B_7 B_8 B_9 B_10 B_11 lA nA lB nB lZ nZ hb3 hbl2
        have HA := GA
        clear GA
        have HB := GB
        clear GB
        have HZ := GZ
        clear GZ
        have lA := blk_lt HA.out
        have nA : ¬ w.heap.size = w3.heap.size := by omega
        have lB := blk_lt HB.out
        have nB : ¬ w.heap.size + 1 = w3.heap.size := by omega
        have lZ := blk_lt HZ.out
        have nZ : ¬ w.heap.size + 1 + 1 = w3.heap.size := by omega
        obtain ⟨A_0, A_1, A_2, A_3, A_4, A_5, A_6, A_7, A_8, A_9, A_10, A_11⟩ := blk12 HA.out
        obtain ⟨B_0, B_1, B_2, B_3, B_4, B_5, B_6, B_7, B_8, B_9, B_10, B_11⟩ := blk12 HB.out
        go_wp2_with (fail)
        refine (mA _).mono ?_
        rintro e w4 ⟨rfl, hb4⟩
        have GA : Hid (w4.heap[w.heap.size]? = some (.cells #[.int .i64 A.i, .int .u32 (A.s : Int), .int .i64 A.sl, .int .u32 (A.d : Int), .int .i64 A.dl, .int .u16 (A.p.1 : Int), .int .u16 (A.p.2 : Int), .int .u16 (A.q.1 : Int), .int .u16 (A.q.2 : Int), .int .u8 (A.m.1 : Int), .int .u8 (A.m.2 : Int), .int .i64 A.act] 32)) := blk_on (blk_alloc (blk_alloc HA.out _) _) hb4
        have GB : Hid (w4.heap[w.heap.size + 1]? = some (.cells #[.int .i64 B.i, .int .u32 (B.s : Int), .int .i64 B.sl, .int .u32 (B.d : Int), .int .i64 B.dl, .int .u16 (B.p.1 : Int), .int .u16 (B.p.2 : Int), .int .u16 (B.q.1 : Int), .int .u16 (B.q.2 : Int), .int .u8 (B.m.1 : Int), .int .u8 (B.m.2 : Int), .int .i64 B.act] 32)) := blk_on (blk_alloc (blk_alloc HB.out _) _) hb4
        have GZ : Hid (w4.heap[w.heap.size + 1 + 1]? = some (.cells #[.int .u32 0, .int .u32 0, .int .u16 0, .int .u16 0, .int .u8 0] 34)) := blk_on (blk_alloc (blk_alloc HZ.out _) _) hb4
        have GK : Hid (w4.heap[w3.heap.size]? = some (.cells #[.int .u8 (H.r : Int), .int .u8 (kc : Int)] 29)) := blk_on (blk_alloc (blk_new w3 (.cells #[.int .u8 (H.r : Int), .int .u8 (kc : Int)] 29)) _) hb4
        have GH : Hid (w4.heap[w3.heap.size + 1]? = some (.cells #[.int .u32 (H.s : Int), .int .u32 (H.d : Int), .int .u16 (H.p : Int), .int .u16 (H.q : Int), .int .u8 (H.r : Int)] 34)) := blk_on (by simpa using blk_new (w3.alloc (.cells #[.int .u8 (H.r : Int), .int .u8 (kc : Int)] 29)) (.cells #[.int .u32 (H.s : Int), .int .u32 (H.d : Int), .int .u16 (H.p : Int), .int .u16 (H.q : Int), .int .u8 (H.r : Int)] 34)) hb4
        have HO4 : Hid (w3.heap.size + 1 < w4.heap.size) := blk_lt GH.out
        have hbl4 : Hid (Below w.heap.size w w4) := bel_step hbl3.out (bel_a2 _ _ _) hb4
        clear HA HB HZ A_0 A_1 A_2 A_3 A_4 A_5 A_6 A_7 A_8 A_9 A_10 A_11 B_0 B_1 B_2 B_3 B_4 B_5 B_6 B_7 B_8 B_9 B_10 B_11 lA nA lB nB lZ nZ hb4 hbl3
        have HA := GA
        clear GA
        have HB := GB
        clear GB
        have HZ := GZ
        clear GZ
        have HK := GK
        clear GK
        have HH := GH
        clear GH
        have lA := blk_lt HA.out
        have nA : ¬ w.heap.size = w4.heap.size := by omega
        have lB := blk_lt HB.out
        have nB : ¬ w.heap.size + 1 = w4.heap.size := by omega
        have lZ := blk_lt HZ.out
        have nZ : ¬ w.heap.size + 1 + 1 = w4.heap.size := by omega
        have lK := blk_lt HK.out
        have nK : ¬ w3.heap.size = w4.heap.size := by omega
        have lH := blk_lt HH.out
        have nH : ¬ w3.heap.size + 1 = w4.heap.size := by omega
        cases u
        · have hZZ : (w4).heap[w.heap.size + 1 + 1]? = some (.cells #[.int .u32 0, .int .u32 0, .int .u16 0, .int .u16 0, .int .u8 0] 34) := HZ.out
          go_wp2_with (refine wpList_store_blk rfl 34 (.tmp 4) (.tmp 71) rfl (w.heap.size + 1 + 1) 0 #[.int .u32 0, .int .u32 0, .int .u16 0, .int .u16 0, .int .u8 0] #[.int .u32 0, .int .u32 0, .int .u16 0, .int .u16 0, .int .u8 0] rfl rfl 34 _ hZZ (Nat.le_of_ble_eq_true rfl) rfl (by kernel_rfl) rfl ?_; intro w8 hw8 how8)
          have hbl9 : Below w.heap.size w w8 := (bel_step hbl4.out (bel_a0 _) (Below.refl _ _)).trans (how8.below (by omega))
          exact bodyPost_ret (results_blk2 Tryz.results19 rfl hw8 Tryz.underlying34 rfl (by kernel_rfl)) rfl ⟨(by have e1 := HN.out (by simp); have e2 := HM.out (by simp); subst e1 e2; rfl), hbl9⟩
        · obtain ⟨B_0, B_1, B_2, B_3, B_4, B_5, B_6, B_7, B_8, B_9, B_10, B_11⟩ := blk12 HB.out
          obtain ⟨H_0, H_1, H_2, H_3, H_4⟩ := blk5 HH.out
          go_wp2_with (fail)
          refine (mB _).mono ?_
          rintro e w5 ⟨rfl, hb5⟩
          have GA : Hid (w5.heap[w.heap.size]? = some (.cells #[.int .i64 A.i, .int .u32 (A.s : Int), .int .i64 A.sl, .int .u32 (A.d : Int), .int .i64 A.dl, .int .u16 (A.p.1 : Int), .int .u16 (A.p.2 : Int), .int .u16 (A.q.1 : Int), .int .u16 (A.q.2 : Int), .int .u8 (A.m.1 : Int), .int .u8 (A.m.2 : Int), .int .i64 A.act] 32)) := blk_on HA.out hb5
          have GB : Hid (w5.heap[w.heap.size + 1]? = some (.cells #[.int .i64 B.i, .int .u32 (B.s : Int), .int .i64 B.sl, .int .u32 (B.d : Int), .int .i64 B.dl, .int .u16 (B.p.1 : Int), .int .u16 (B.p.2 : Int), .int .u16 (B.q.1 : Int), .int .u16 (B.q.2 : Int), .int .u8 (B.m.1 : Int), .int .u8 (B.m.2 : Int), .int .i64 B.act] 32)) := blk_on HB.out hb5
          have GZ : Hid (w5.heap[w.heap.size + 1 + 1]? = some (.cells #[.int .u32 0, .int .u32 0, .int .u16 0, .int .u16 0, .int .u8 0] 34)) := blk_on HZ.out hb5
          have GK : Hid (w5.heap[w3.heap.size]? = some (.cells #[.int .u8 (H.r : Int), .int .u8 (kc : Int)] 29)) := blk_on HK.out hb5
          have GH : Hid (w5.heap[w3.heap.size + 1]? = some (.cells #[.int .u32 (H.s : Int), .int .u32 (H.d : Int), .int .u16 (H.p : Int), .int .u16 (H.q : Int), .int .u8 (H.r : Int)] 34)) := blk_on HH.out hb5
          have hbl5 : Hid (Below w.heap.size w w5) := bel_step hbl4.out (bel_a0 _) hb5
          clear HA HB HZ HK HH B_0 B_1 B_2 B_3 B_4 B_5 B_6 B_7 B_8 B_9 B_10 B_11 H_0 H_1 H_2 H_3 H_4 lA nA lB nB lZ nZ lK nK lH nH hb5 hbl4
          have HA := GA
          clear GA
          have HB := GB
          clear GB
          have HZ := GZ
          clear GZ
          have HK := GK
          clear GK
          have HH := GH
          clear GH
          have lA := blk_lt HA.out
          have nA : ¬ w.heap.size = w5.heap.size := by omega
          have lB := blk_lt HB.out
          have nB : ¬ w.heap.size + 1 = w5.heap.size := by omega
          have lZ := blk_lt HZ.out
          have nZ : ¬ w.heap.size + 1 + 1 = w5.heap.size := by omega
          have lK := blk_lt HK.out
          have nK : ¬ w3.heap.size = w5.heap.size := by omega
          have lH := blk_lt HH.out
          have nH : ¬ w3.heap.size + 1 = w5.heap.size := by omega
          cases v
          · have hZZ : (w5).heap[w.heap.size + 1 + 1]? = some (.cells #[.int .u32 0, .int .u32 0, .int .u16 0, .int .u16 0, .int .u8 0] 34) := HZ.out
            go_wp2_with (refine wpList_store_blk rfl 34 (.tmp 4) (.tmp 71) rfl (w.heap.size + 1 + 1) 0 #[.int .u32 0, .int .u32 0, .int .u16 0, .int .u16 0, .int .u8 0] #[.int .u32 0, .int .u32 0, .int .u16 0, .int .u16 0, .int .u8 0] rfl rfl 34 _ hZZ (Nat.le_of_ble_eq_true rfl) rfl (by kernel_rfl) rfl ?_; intro w8 hw8 how8)
            have hbl9 : Below w.heap.size w w8 := (bel_step hbl5.out (bel_a0 _) (Below.refl _ _)).trans (how8.below (by omega))
            exact bodyPost_ret (results_blk2 Tryz.results19 rfl hw8 Tryz.underlying34 rfl (by kernel_rfl)) rfl ⟨(by have e1 := HN.out (by simp); have e2 := HM.out (by simp); subst e1 e2; rfl), hbl9⟩
          · obtain ⟨H_0, H_1, H_2, H_3, H_4⟩ := blk5 HH.out
            have hZZ : (w5).heap[w.heap.size + 1 + 1]? = some (.cells #[.int .u32 0, .int .u32 0, .int .u16 0, .int .u16 0, .int .u8 0] 34) := HZ.out
            go_wp2_with (refine wpList_store_blk rfl 34 (.tmp 4) (.tmp 72) rfl (w.heap.size + 1 + 1) 0 #[.int .u32 (H.s : Int), .int .u32 (H.d : Int), .int .u16 (H.p : Int), .int .u16 (H.q : Int), .int .u8 (H.r : Int)] #[.int .u32 (H.s : Int), .int .u32 (H.d : Int), .int .u16 (H.p : Int), .int .u16 (H.q : Int), .int .u8 (H.r : Int)] rfl rfl 34 _ hZZ (Nat.le_of_ble_eq_true rfl) rfl (by kernel_rfl) rfl ?_; intro w8 hw8 how8)
            have hbl9 : Below w.heap.size w w8 := (bel_step hbl5.out (bel_a0 _) (Below.refl _ _)).trans (how8.below (by omega))
            exact bodyPost_ret (results_blk2 Tryz.results19 rfl hw8 Tryz.underlying34 rfl (by kernel_rfl)) rfl ⟨(by have e1 := HY.out (by simp); have e2 := HM2.out (by simp); subst e1 e2; rfl), hbl9⟩
      · have hK := fun W => rmeet_no A.m.1 A.m.2 B.m.1 B.m.2 W bA.2.2.2.2.2.2.1 bA.2.2.2.2.2.2.2.1 bB.2.2.2.2.2.2.1 bB.2.2.2.2.2.2.2.1 (by rw [ma, mb, hap]; rfl)
        have hf : bothR A B = false := by rw [hbo]; exact not_both (.inr (.inr (.inr (.inr hap))))
        rw [meetH_no hf, hf]
        obtain ⟨H, hH⟩ : ∃ H : Hd, H = leastX (meetB (boxR A) (boxR B)) := ⟨_, rfl⟩
        have f0 : max (A.s : Int) (B.s : Int) = (H.s : Int) := by rw [hH]; exact max_natR _ _
        have f1 : max (A.d : Int) (B.d : Int) = (H.d : Int) := by rw [hH]; exact max_natR _ _
        have f2 : max (A.p.1 : Int) (B.p.1 : Int) = (H.p : Int) := by rw [hH]; exact max_natR _ _
        have f3 : max (A.q.1 : Int) (B.q.1 : Int) = (H.q : Int) := by rw [hH]; exact max_natR _ _
        clear ha hb bA bB ma mb hbl hbo hap hf hH
        go_enter Tryz.func19, Tryz.ntmps19
        go_wp2_with (fail)
        refine (hA _).mono ?_
        rintro e w1 ⟨rfl, hb1⟩
        have GA : Hid (w1.heap[w.heap.size]? = some (.cells #[.int .i64 A.i, .int .u32 (A.s : Int), .int .i64 A.sl, .int .u32 (A.d : Int), .int .i64 A.dl, .int .u16 (A.p.1 : Int), .int .u16 (A.p.2 : Int), .int .u16 (A.q.1 : Int), .int .u16 (A.q.2 : Int), .int .u8 (A.m.1 : Int), .int .u8 (A.m.2 : Int), .int .i64 A.act] 32)) := blk_on (blk_alloc (blk_alloc (blk_new w (.cells #[.int .i64 A.i, .int .u32 (A.s : Int), .int .i64 A.sl, .int .u32 (A.d : Int), .int .i64 A.dl, .int .u16 (A.p.1 : Int), .int .u16 (A.p.2 : Int), .int .u16 (A.q.1 : Int), .int .u16 (A.q.2 : Int), .int .u8 (A.m.1 : Int), .int .u8 (A.m.2 : Int), .int .i64 A.act] 32)) _) _) hb1
        have GB : Hid (w1.heap[w.heap.size + 1]? = some (.cells #[.int .i64 B.i, .int .u32 (B.s : Int), .int .i64 B.sl, .int .u32 (B.d : Int), .int .i64 B.dl, .int .u16 (B.p.1 : Int), .int .u16 (B.p.2 : Int), .int .u16 (B.q.1 : Int), .int .u16 (B.q.2 : Int), .int .u8 (B.m.1 : Int), .int .u8 (B.m.2 : Int), .int .i64 B.act] 32)) := blk_on (blk_alloc (by simpa using blk_new (w.alloc (.cells #[.int .i64 A.i, .int .u32 (A.s : Int), .int .i64 A.sl, .int .u32 (A.d : Int), .int .i64 A.dl, .int .u16 (A.p.1 : Int), .int .u16 (A.p.2 : Int), .int .u16 (A.q.1 : Int), .int .u16 (A.q.2 : Int), .int .u8 (A.m.1 : Int), .int .u8 (A.m.2 : Int), .int .i64 A.act] 32)) (.cells #[.int .i64 B.i, .int .u32 (B.s : Int), .int .i64 B.sl, .int .u32 (B.d : Int), .int .i64 B.dl, .int .u16 (B.p.1 : Int), .int .u16 (B.p.2 : Int), .int .u16 (B.q.1 : Int), .int .u16 (B.q.2 : Int), .int .u8 (B.m.1 : Int), .int .u8 (B.m.2 : Int), .int .i64 B.act] 32)) _) hb1
        have GZ : Hid (w1.heap[w.heap.size + 1 + 1]? = some (.cells #[.int .u32 0, .int .u32 0, .int .u16 0, .int .u16 0, .int .u8 0] 34)) := blk_on (by simpa using blk_new ((w.alloc (.cells #[.int .i64 A.i, .int .u32 (A.s : Int), .int .i64 A.sl, .int .u32 (A.d : Int), .int .i64 A.dl, .int .u16 (A.p.1 : Int), .int .u16 (A.p.2 : Int), .int .u16 (A.q.1 : Int), .int .u16 (A.q.2 : Int), .int .u8 (A.m.1 : Int), .int .u8 (A.m.2 : Int), .int .i64 A.act] 32)).alloc (.cells #[.int .i64 B.i, .int .u32 (B.s : Int), .int .i64 B.sl, .int .u32 (B.d : Int), .int .i64 B.dl, .int .u16 (B.p.1 : Int), .int .u16 (B.p.2 : Int), .int .u16 (B.q.1 : Int), .int .u16 (B.q.2 : Int), .int .u8 (B.m.1 : Int), .int .u8 (B.m.2 : Int), .int .i64 B.act] 32)) (.cells #[.int .u32 0, .int .u32 0, .int .u16 0, .int .u16 0, .int .u8 0] 34)) hb1
        have HO1 : Hid (w.heap.size + 1 + 1 < w1.heap.size) := blk_lt GZ.out
        have hbl1 : Hid (Below w.heap.size w w1) := bel_step (Below.refl _ _) (bel_a3 _ _ _ _) hb1
        clear hb1
        have HA := GA
        clear GA
        have HB := GB
        clear GB
        have HZ := GZ
        clear GZ
        have lA := blk_lt HA.out
        have nA : ¬ w.heap.size = w1.heap.size := by omega
        have lB := blk_lt HB.out
        have nB : ¬ w.heap.size + 1 = w1.heap.size := by omega
        have lZ := blk_lt HZ.out
        have nZ : ¬ w.heap.size + 1 + 1 = w1.heap.size := by omega
        obtain ⟨B_0, B_1, B_2, B_3, B_4, B_5, B_6, B_7, B_8, B_9, B_10, B_11⟩ := blk12 HB.out
        go_wp2_with (fail)
        refine (hB _).mono ?_
        rintro e w2 ⟨rfl, hb2⟩
        have GA : Hid (w2.heap[w.heap.size]? = some (.cells #[.int .i64 A.i, .int .u32 (A.s : Int), .int .i64 A.sl, .int .u32 (A.d : Int), .int .i64 A.dl, .int .u16 (A.p.1 : Int), .int .u16 (A.p.2 : Int), .int .u16 (A.q.1 : Int), .int .u16 (A.q.2 : Int), .int .u8 (A.m.1 : Int), .int .u8 (A.m.2 : Int), .int .i64 A.act] 32)) := blk_on HA.out hb2
        have GB : Hid (w2.heap[w.heap.size + 1]? = some (.cells #[.int .i64 B.i, .int .u32 (B.s : Int), .int .i64 B.sl, .int .u32 (B.d : Int), .int .i64 B.dl, .int .u16 (B.p.1 : Int), .int .u16 (B.p.2 : Int), .int .u16 (B.q.1 : Int), .int .u16 (B.q.2 : Int), .int .u8 (B.m.1 : Int), .int .u8 (B.m.2 : Int), .int .i64 B.act] 32)) := blk_on HB.out hb2
        have GZ : Hid (w2.heap[w.heap.size + 1 + 1]? = some (.cells #[.int .u32 0, .int .u32 0, .int .u16 0, .int .u16 0, .int .u8 0] 34)) := blk_on HZ.out hb2
        have hbl2 : Hid (Below w.heap.size w w2) := bel_step hbl1.out (bel_a0 _) hb2
        clear HA HB HZ B_0 B_1 B_2 B_3 B_4 B_5 B_6 B_7 B_8 B_9 B_10 B_11 lA nA lB nB lZ nZ hb2 hbl1
        have HA := GA
        clear GA
        have HB := GB
        clear GB
        have HZ := GZ
        clear GZ
        have lA := blk_lt HA.out
        have nA : ¬ w.heap.size = w2.heap.size := by omega
        have lB := blk_lt HB.out
        have nB : ¬ w.heap.size + 1 = w2.heap.size := by omega
        have lZ := blk_lt HZ.out
        have nZ : ¬ w.heap.size + 1 + 1 = w2.heap.size := by omega
        obtain ⟨A_0, A_1, A_2, A_3, A_4, A_5, A_6, A_7, A_8, A_9, A_10, A_11⟩ := blk12 HA.out
        obtain ⟨B_0, B_1, B_2, B_3, B_4, B_5, B_6, B_7, B_8, B_9, B_10, B_11⟩ := blk12 HB.out
        go_wp2_with (fail)
        refine (hK _).mono ?_
        rintro e w3 ⟨rfl, hb3⟩
        have GA : Hid (w3.heap[w.heap.size]? = some (.cells #[.int .i64 A.i, .int .u32 (A.s : Int), .int .i64 A.sl, .int .u32 (A.d : Int), .int .i64 A.dl, .int .u16 (A.p.1 : Int), .int .u16 (A.p.2 : Int), .int .u16 (A.q.1 : Int), .int .u16 (A.q.2 : Int), .int .u8 (A.m.1 : Int), .int .u8 (A.m.2 : Int), .int .i64 A.act] 32)) := blk_on HA.out hb3
        have GB : Hid (w3.heap[w.heap.size + 1]? = some (.cells #[.int .i64 B.i, .int .u32 (B.s : Int), .int .i64 B.sl, .int .u32 (B.d : Int), .int .i64 B.dl, .int .u16 (B.p.1 : Int), .int .u16 (B.p.2 : Int), .int .u16 (B.q.1 : Int), .int .u16 (B.q.2 : Int), .int .u8 (B.m.1 : Int), .int .u8 (B.m.2 : Int), .int .i64 B.act] 32)) := blk_on HB.out hb3
        have GZ : Hid (w3.heap[w.heap.size + 1 + 1]? = some (.cells #[.int .u32 0, .int .u32 0, .int .u16 0, .int .u16 0, .int .u8 0] 34)) := blk_on HZ.out hb3
        have hbl3 : Hid (Below w.heap.size w w3) := bel_step hbl2.out (bel_a0 _) hb3
        clear HA HB HZ A_0 A_1 A_2 A_3 A_4 A_5 A_6 A_7 A_8 A_9 A_10 A_11 B_0 B_1 B_2 B_3 B_4 B_5 B_6 B_7 B_8 B_9 B_10 B_11 lA nA lB nB lZ nZ hb3 hbl2
        have HA := GA
        clear GA
        have HB := GB
        clear GB
        have HZ := GZ
        clear GZ
        have lA := blk_lt HA.out
        have nA : ¬ w.heap.size = w3.heap.size := by omega
        have lB := blk_lt HB.out
        have nB : ¬ w.heap.size + 1 = w3.heap.size := by omega
        have lZ := blk_lt HZ.out
        have nZ : ¬ w.heap.size + 1 + 1 = w3.heap.size := by omega
        obtain ⟨A_0, A_1, A_2, A_3, A_4, A_5, A_6, A_7, A_8, A_9, A_10, A_11⟩ := blk12 HA.out
        obtain ⟨B_0, B_1, B_2, B_3, B_4, B_5, B_6, B_7, B_8, B_9, B_10, B_11⟩ := blk12 HB.out
        have hZZ : (((w3.alloc (.cells #[.int .u8 0, .int .u8 0] 29)).alloc (.cells #[.int .u32 (H.s : Int), .int .u32 (H.d : Int), .int .u16 (H.p : Int), .int .u16 (H.q : Int), .int .u8 0] 34))).heap[w.heap.size + 1 + 1]? = some (.cells #[.int .u32 0, .int .u32 0, .int .u16 0, .int .u16 0, .int .u8 0] 34) := (blk_alloc (blk_alloc HZ.out _) _)
        go_wp2_with (refine wpList_store_blk rfl 34 (.tmp 4) (.tmp 71) rfl (w.heap.size + 1 + 1) 0 #[.int .u32 0, .int .u32 0, .int .u16 0, .int .u16 0, .int .u8 0] #[.int .u32 0, .int .u32 0, .int .u16 0, .int .u16 0, .int .u8 0] rfl rfl 34 _ hZZ (Nat.le_of_ble_eq_true rfl) rfl (by kernel_rfl) rfl ?_; intro w8 hw8 how8)
        have hbl9 : Below w.heap.size w w8 := (bel_step hbl3.out (bel_a2 _ _ _) (Below.refl _ _)).trans (how8.below (by omega))
        exact bodyPost_ret (results_blk2 Tryz.results19 rfl hw8 Tryz.underlying34 rfl (by kernel_rfl)) rfl ⟨rfl, hbl9⟩
end Go.Proofs.YtebljklpkoheaaaGreat
