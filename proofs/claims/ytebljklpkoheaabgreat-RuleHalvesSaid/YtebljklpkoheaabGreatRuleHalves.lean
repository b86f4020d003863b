/-
  For any rule and header: a rule's count, and what it matches, are those of the two that have the halves of its Src (P8.6); and the examples of the document hold.
  Conditions: none; the law holds for every input.
-/
import Derived.Test.YtebljklpkoheaabGreatRuAw
import Derived.Test.YtebljklpkoheaabGreatRuFrame
namespace Go.Proofs.YtebljklpkoheaabGreat
open Go.ChangeShapes Go.WideShapes Go.ChangeAt Go.RowKit Go.Joins
set_option linter.unusedVariables false
set_option linter.unusedSimpArgs false

theorem bool_three {m u v : Bool} (h1 : m = (u != v)) (h2 : (u && v) = false) : (m = false ∧ u = false ∧ v = false) ∨ (m = true ∧ u = true ∧ v = false) ∨ (m = true ∧ u = false ∧ v = true) := by
  cases u <;> cases v <;> simp_all
set_option maxRecDepth 20000 in
set_option maxHeartbeats 8000000 in
theorem ruleHalves_walk (R : Ru) (bR : BdR R) (h : Hd) (oh : OkH h) (w : World) :
    Calls Tryz.prog 3 #[.agg #[.int .i64 R.i, .int .u32 (R.s : Int), .int .i64 R.sl, .int .u32 (R.d : Int), .int .i64 R.dl, .int .u16 (R.p.1 : Int), .int .u16 (R.p.2 : Int), .int .u16 (R.q.1 : Int), .int .u16 (R.q.2 : Int), .int .u8 (R.m.1 : Int), .int .u8 (R.m.2 : Int), .int .i64 R.act], .agg #[.int .u32 (h.s : Int), .int .u32 (h.d : Int), .int .u16 (h.p : Int), .int .u16 (h.q : Int), .int .u8 (h.r : Int)]] w fun e w' => e = .returned (.bool true) ∧ Below w.heap.size w w' := by
  have hC := fun W => checkRC R W bR
  have hV := fun W => Pf.halves_any R.s R.sl W bR.1
  cases ho : okR R
  · have hn := errs_no ho
    generalize (errs R).1 = c at *
    generalize (errs R).2 = d at *
    generalize Pf.hA R.s R.sl = x1 at *
    generalize Pf.hB R.s R.sl = x2 at *
    generalize Pf.hN R.s R.sl = n1 at *
    generalize Pf.hE R.s R.sl = f at *
    clear ho bR oh
    go_enter Tryz.func3, Tryz.ntmps3
    go_wp2_with (fail)
    refine (hC _).mono ?_
    rintro e w1 ⟨rfl, hb1⟩
    have GR : Hid (w1.heap[w.heap.size]? = some (.cells #[.int .i64 R.i, .int .u32 (R.s : Int), .int .i64 R.sl, .int .u32 (R.d : Int), .int .i64 R.dl, .int .u16 (R.p.1 : Int), .int .u16 (R.p.2 : Int), .int .u16 (R.q.1 : Int), .int .u16 (R.q.2 : Int), .int .u8 (R.m.1 : Int), .int .u8 (R.m.2 : Int), .int .i64 R.act] 32)) := blk_on (blk_alloc (blk_new w (.cells #[.int .i64 R.i, .int .u32 (R.s : Int), .int .i64 R.sl, .int .u32 (R.d : Int), .int .i64 R.dl, .int .u16 (R.p.1 : Int), .int .u16 (R.p.2 : Int), .int .u16 (R.q.1 : Int), .int .u16 (R.q.2 : Int), .int .u8 (R.m.1 : Int), .int .u8 (R.m.2 : Int), .int .i64 R.act] 32)) _) hb1
    have Gh : Hid (w1.heap[w.heap.size + 1]? = some (.cells #[.int .u32 (h.s : Int), .int .u32 (h.d : Int), .int .u16 (h.p : Int), .int .u16 (h.q : Int), .int .u8 (h.r : Int)] 34)) := blk_on (by simpa using blk_new (w.alloc (.cells #[.int .i64 R.i, .int .u32 (R.s : Int), .int .i64 R.sl, .int .u32 (R.d : Int), .int .i64 R.dl, .int .u16 (R.p.1 : Int), .int .u16 (R.p.2 : Int), .int .u16 (R.q.1 : Int), .int .u16 (R.q.2 : Int), .int .u8 (R.m.1 : Int), .int .u8 (R.m.2 : Int), .int .i64 R.act] 32)) (.cells #[.int .u32 (h.s : Int), .int .u32 (h.d : Int), .int .u16 (h.p : Int), .int .u16 (h.q : Int), .int .u8 (h.r : Int)] 34)) hb1
    have HO1 : Hid (w.heap.size + 1 < w1.heap.size) := blk_lt Gh.out
    have hbl1 : Hid (Below w.heap.size w w1) := bel_step (Below.refl _ _) (bel_a2 _ _ _) hb1
    clear hb1
    have HR := GR
    clear GR
    have Hh := Gh
    clear Gh
    have lR := blk_lt HR.out
    have nR : ¬ w.heap.size = w1.heap.size := by omega
    have lh := blk_lt Hh.out
    have nh : ¬ w.heap.size + 1 = w1.heap.size := by omega
    obtain ⟨R_0, R_1, R_2, R_3, R_4, R_5, R_6, R_7, R_8, R_9, R_10, R_11⟩ := blk12 HR.out
    go_wp2_with (fail)
    refine (hV _).mono ?_
    rintro e w2 ⟨rfl, hb2⟩
    have GR : Hid (w2.heap[w.heap.size]? = some (.cells #[.int .i64 R.i, .int .u32 (R.s : Int), .int .i64 R.sl, .int .u32 (R.d : Int), .int .i64 R.dl, .int .u16 (R.p.1 : Int), .int .u16 (R.p.2 : Int), .int .u16 (R.q.1 : Int), .int .u16 (R.q.2 : Int), .int .u8 (R.m.1 : Int), .int .u8 (R.m.2 : Int), .int .i64 R.act] 32)) := blk_on HR.out hb2
    have Gh : Hid (w2.heap[w.heap.size + 1]? = some (.cells #[.int .u32 (h.s : Int), .int .u32 (h.d : Int), .int .u16 (h.p : Int), .int .u16 (h.q : Int), .int .u8 (h.r : Int)] 34)) := blk_on Hh.out hb2
    have hbl2 : Hid (Below w.heap.size w w2) := bel_step hbl1.out (bel_a0 _) hb2
    clear HR Hh R_0 R_1 R_2 R_3 R_4 R_5 R_6 R_7 R_8 R_9 R_10 R_11 lR nR lh nh hb2 hbl1
    have HR := GR
    clear GR
    have Hh := Gh
    clear Gh
    have lR := blk_lt HR.out
    have nR : ¬ w.heap.size = w2.heap.size := by omega
    have lh := blk_lt Hh.out
    have nh : ¬ w.heap.size + 1 = w2.heap.size := by omega
    go_wp2_with (fail)
    refine (awakeR _).mono ?_
    rintro e w3 ⟨rfl, hb3⟩
    have GR : Hid (w3.heap[w.heap.size]? = some (.cells #[.int .i64 R.i, .int .u32 (R.s : Int), .int .i64 R.sl, .int .u32 (R.d : Int), .int .i64 R.dl, .int .u16 (R.p.1 : Int), .int .u16 (R.p.2 : Int), .int .u16 (R.q.1 : Int), .int .u16 (R.q.2 : Int), .int .u8 (R.m.1 : Int), .int .u8 (R.m.2 : Int), .int .i64 R.act] 32)) := blk_on (blk_alloc (blk_alloc HR.out _) _) hb3
    have Gh : Hid (w3.heap[w.heap.size + 1]? = some (.cells #[.int .u32 (h.s : Int), .int .u32 (h.d : Int), .int .u16 (h.p : Int), .int .u16 (h.q : Int), .int .u8 (h.r : Int)] 34)) := blk_on (blk_alloc (blk_alloc Hh.out _) _) hb3
    have Gx : Hid (w3.heap[w2.heap.size]? = some (.cells #[.int .u32 (x1 : Int), .int .i64 n1] 24)) := blk_on (blk_alloc (blk_new w2 (.cells #[.int .u32 (x1 : Int), .int .i64 n1] 24)) _) hb3
    have Gy : Hid (w3.heap[w2.heap.size + 1]? = some (.cells #[.int .u32 (x2 : Int), .int .i64 n1] 24)) := blk_on (by simpa using blk_new (w2.alloc (.cells #[.int .u32 (x1 : Int), .int .i64 n1] 24)) (.cells #[.int .u32 (x2 : Int), .int .i64 n1] 24)) hb3
    have HO3 : Hid (w2.heap.size + 1 < w3.heap.size) := blk_lt Gy.out
    have hbl3 : Hid (Below w.heap.size w w3) := bel_step hbl2.out (bel_a2 _ _ _) hb3
    clear HR Hh lR nR lh nh hb3 hbl2
    have HR := GR
    clear GR
    have Hh := Gh
    clear Gh
    have Hx := Gx
    clear Gx
    have Hy := Gy
    clear Gy
    have lR := blk_lt HR.out
    have nR : ¬ w.heap.size = w3.heap.size := by omega
    have lh := blk_lt Hh.out
    have nh : ¬ w.heap.size + 1 = w3.heap.size := by omega
    have lx := blk_lt Hx.out
    have nx : ¬ w2.heap.size = w3.heap.size := by omega
    have ly := blk_lt Hy.out
    have ny : ¬ w2.heap.size + 1 = w3.heap.size := by omega
    go_wp2_with (fail)
    go_ret
    exact ⟨rfl, hbl3.out⟩
  · rw [errs_ok ho] at hC
    by_cases hf : Pf.hE R.s R.sl = 0
    · have hk := ((okR_iff R).1 ho).2.1
      obtain ⟨n, e, hn32, hz⟩ := Pf.chk_ok hk
      have hn : n < 32 := by
        unfold Pf.hE at hf
        rw [if_pos hk] at hf
        by_cases e2 : R.sl = 32
        · rw [if_pos e2] at hf; cases hf
        · omega
      have a1 : Pf.hA R.s R.sl = R.s := by unfold Pf.hA; rw [if_pos hf]
      have a2 : Pf.hB R.s R.sl = R.s + Pf.bk (n + 1) := by unfold Pf.hB; rw [if_pos hf, e, Int.toNat_natCast]
      have a3 : Pf.hN R.s R.sl = ((n + 1 : Nat) : Int) := by unfold Pf.hN; rw [if_pos hf, e]; rfl
      rw [a1, a2, a3, hf] at hV
      obtain ⟨q1, q2⟩ := half_ok ho hn e
      obtain ⟨b1, b2, b3, b4, b5, b6, b7, b8, b9, b10, b11, b12⟩ := bR
      have hlt : R.s + Pf.bk (n + 1) < 4294967296 := by
        have := Pf.top_lt R.s n b1 hz (by omega)
        have e1 := Pf.bk_succ n hn
        have e2 := Pf.bk_pos (n + 1)
        omega
      have bU : BdR (withS R R.s ((n + 1 : Nat) : Int)) := ⟨b1, b2, b3, b4, b5, b6, b7, b8, b9, by unfold I64 withS; simp only; omega, b11, b12⟩
      have bV : BdR (withS R (R.s + Pf.bk (n + 1)) ((n + 1 : Nat) : Int)) := ⟨hlt, b2, b3, b4, b5, b6, b7, b8, b9, by unfold I64 withS; simp only; omega, b11, b12⟩
      have bR : BdR R := ⟨b1, b2, b3, b4, b5, b6, b7, b8, b9, b10, b11, b12⟩
      have kU := fun W => countRC _ W bU
      have kV := fun W => countRC _ W bV
      have kR := fun W => countRC R W bR
      obtain ⟨t1, t2⟩ := half_cnt ho hn e
      rw [t1] at kV
      obtain ⟨s1, s2⟩ := two_hi t2 (cntR_lt bR)
      have HHI : Hid (hiW (cntR R) < 18446744073709551616) := by show _ < _; have := cntR_lt bR; unfold hiW; omega
      have HLO : Hid (loW (cntR (withS R R.s ((n + 1 : Nat) : Int))) < 18446744073709551616) := by show _ < _; unfold loW; omega
      have kM := fun W => meetsC _ _ W bU bV
      rw [half_apart ho hn e] at kM
      have mR := fun W => matchC R h W bR oh
      have mU := fun W => matchC _ h W bU oh
      have mV := fun W => matchC _ h W bV oh
      obtain ⟨m1, m2⟩ := half_match ho hn e h
      have HMM := bool_three m1 m2
      replace HMM : Hid _ := HMM
      generalize hiW (cntR (withS R R.s ((n + 1 : Nat) : Int))) = p at *
      generalize loW (cntR (withS R R.s ((n + 1 : Nat) : Int))) = q at *
      generalize hiW (cntR R) = H1 at *
      generalize loW (cntR R) = L1 at *
      generalize meetR (withS R R.s ((n + 1 : Nat) : Int)) (withS R (R.s + Pf.bk (n + 1)) ((n + 1 : Nat) : Int)) = Z at *
      generalize matchR R h = r0 at *
      generalize matchR (withS R R.s ((n + 1 : Nat) : Int)) h = r1 at *
      generalize matchR (withS R (R.s + Pf.bk (n + 1)) ((n + 1 : Nat) : Int)) h = r2 at *
      have f1 : IntKind.u64.wrap ((q : Int) + (q : Int)) = (L1 : Int) := by rw [show IntKind.u64.wrap ((q : Int) + (q : Int)) = ((q : Int) + (q : Int)) % 18446744073709551616 from rfl]; omega
      have f2 : IntKind.u64.wrap (IntKind.u64.wrap ((p : Int) + (p : Int)) + (q : Int) / 9223372036854775808) = (H1 : Int) := by
        have := HHI.out
        rw [show IntKind.u64.wrap ((p : Int) + (p : Int)) = ((p : Int) + (p : Int)) % 18446744073709551616 from rfl]
        rw [show ∀ x : Int, IntKind.u64.wrap x = x % 18446744073709551616 from fun x => rfl]
        omega
      simp only [withS] at kU kV kM mU mV
      clear ho oh hk hn32 hz hn a1 a2 a3 q1 q2 b1 b2 b3 b4 b5 b6 b7 b8 b9 b10 b11 b12 bU bV bR t1 t2 s1 s2 m1 m2 hf
      generalize R.s + Pf.bk (n + 1) = x2 at *
      generalize ((n + 1 : Nat) : Int) = n1 at *
      clear hlt e
      go_enter Tryz.func3, Tryz.ntmps3
      go_wp2_with (fail)
      refine (hC _).mono ?_
      rintro e w1 ⟨rfl, hb1⟩
      have GR : Hid (w1.heap[w.heap.size]? = some (.cells #[.int .i64 R.i, .int .u32 (R.s : Int), .int .i64 R.sl, .int .u32 (R.d : Int), .int .i64 R.dl, .int .u16 (R.p.1 : Int), .int .u16 (R.p.2 : Int), .int .u16 (R.q.1 : Int), .int .u16 (R.q.2 : Int), .int .u8 (R.m.1 : Int), .int .u8 (R.m.2 : Int), .int .i64 R.act] 32)) := blk_on (blk_alloc (blk_new w (.cells #[.int .i64 R.i, .int .u32 (R.s : Int), .int .i64 R.sl, .int .u32 (R.d : Int), .int .i64 R.dl, .int .u16 (R.p.1 : Int), .int .u16 (R.p.2 : Int), .int .u16 (R.q.1 : Int), .int .u16 (R.q.2 : Int), .int .u8 (R.m.1 : Int), .int .u8 (R.m.2 : Int), .int .i64 R.act] 32)) _) hb1
      have Gh : Hid (w1.heap[w.heap.size + 1]? = some (.cells #[.int .u32 (h.s : Int), .int .u32 (h.d : Int), .int .u16 (h.p : Int), .int .u16 (h.q : Int), .int .u8 (h.r : Int)] 34)) := blk_on (by simpa using blk_new (w.alloc (.cells #[.int .i64 R.i, .int .u32 (R.s : Int), .int .i64 R.sl, .int .u32 (R.d : Int), .int .i64 R.dl, .int .u16 (R.p.1 : Int), .int .u16 (R.p.2 : Int), .int .u16 (R.q.1 : Int), .int .u16 (R.q.2 : Int), .int .u8 (R.m.1 : Int), .int .u8 (R.m.2 : Int), .int .i64 R.act] 32)) (.cells #[.int .u32 (h.s : Int), .int .u32 (h.d : Int), .int .u16 (h.p : Int), .int .u16 (h.q : Int), .int .u8 (h.r : Int)] 34)) hb1
      have HO1 : Hid (w.heap.size + 1 < w1.heap.size) := blk_lt Gh.out
      have hbl1 : Hid (Below w.heap.size w w1) := bel_step (Below.refl _ _) (bel_a2 _ _ _) hb1
      clear hb1
      have HR := GR
      clear GR
      have Hh := Gh
      clear Gh
      have lR := blk_lt HR.out
      have nR : ¬ w.heap.size = w1.heap.size := by omega
      have lh := blk_lt Hh.out
      have nh : ¬ w.heap.size + 1 = w1.heap.size := by omega
      obtain ⟨R_0, R_1, R_2, R_3, R_4, R_5, R_6, R_7, R_8, R_9, R_10, R_11⟩ := blk12 HR.out
      go_wp2_with (fail)
      refine (hV _).mono ?_
      rintro e w2 ⟨rfl, hb2⟩
      have GR : Hid (w2.heap[w.heap.size]? = some (.cells #[.int .i64 R.i, .int .u32 (R.s : Int), .int .i64 R.sl, .int .u32 (R.d : Int), .int .i64 R.dl, .int .u16 (R.p.1 : Int), .int .u16 (R.p.2 : Int), .int .u16 (R.q.1 : Int), .int .u16 (R.q.2 : Int), .int .u8 (R.m.1 : Int), .int .u8 (R.m.2 : Int), .int .i64 R.act] 32)) := blk_on HR.out hb2
      have Gh : Hid (w2.heap[w.heap.size + 1]? = some (.cells #[.int .u32 (h.s : Int), .int .u32 (h.d : Int), .int .u16 (h.p : Int), .int .u16 (h.q : Int), .int .u8 (h.r : Int)] 34)) := blk_on Hh.out hb2
      have hbl2 : Hid (Below w.heap.size w w2) := bel_step hbl1.out (bel_a0 _) hb2
      clear HR Hh R_0 R_1 R_2 R_3 R_4 R_5 R_6 R_7 R_8 R_9 R_10 R_11 lR nR lh nh hb2 hbl1
      have HR := GR
      clear GR
      have Hh := Gh
      clear Gh
      have lR := blk_lt HR.out
      have nR : ¬ w.heap.size = w2.heap.size := by omega
      have lh := blk_lt Hh.out
      have nh : ¬ w.heap.size + 1 = w2.heap.size := by omega
      obtain ⟨R_0, R_1, R_2, R_3, R_4, R_5, R_6, R_7, R_8, R_9, R_10, R_11⟩ := blk12 HR.out
      have nR1 : ¬ w.heap.size = w2.heap.size + 1 := by omega
      have lR1 : w.heap.size < w2.heap.size + 1 := by omega
      have nR2 : ¬ w.heap.size = w2.heap.size + 1 + 1 := by omega
      have lR2 : w.heap.size < w2.heap.size + 1 + 1 := by omega
      have nR3 : ¬ w.heap.size = w2.heap.size + 1 + 1 + 1 := by omega
      have lR3 : w.heap.size < w2.heap.size + 1 + 1 + 1 := by omega
      have nh1 : ¬ w.heap.size + 1 = w2.heap.size + 1 := by omega
      have lh1 : w.heap.size + 1 < w2.heap.size + 1 := by omega
      have nh2 : ¬ w.heap.size + 1 = w2.heap.size + 1 + 1 := by omega
      have lh2 : w.heap.size + 1 < w2.heap.size + 1 + 1 := by omega
      have nh3 : ¬ w.heap.size + 1 = w2.heap.size + 1 + 1 + 1 := by omega
      have lh3 : w.heap.size + 1 < w2.heap.size + 1 + 1 + 1 := by omega
      go_wp2_with (fail)
      refine (kU _).mono ?_
      rintro e w3 ⟨rfl, hb3⟩
      have GR : Hid (w3.heap[w.heap.size]? = some (.cells #[.int .i64 R.i, .int .u32 (R.s : Int), .int .i64 R.sl, .int .u32 (R.d : Int), .int .i64 R.dl, .int .u16 (R.p.1 : Int), .int .u16 (R.p.2 : Int), .int .u16 (R.q.1 : Int), .int .u16 (R.q.2 : Int), .int .u8 (R.m.1 : Int), .int .u8 (R.m.2 : Int), .int .i64 R.act] 32)) := blk_on (blk_alloc (blk_alloc (blk_alloc (blk_alloc HR.out _) _) _) _) hb3
      have Gh : Hid (w3.heap[w.heap.size + 1]? = some (.cells #[.int .u32 (h.s : Int), .int .u32 (h.d : Int), .int .u16 (h.p : Int), .int .u16 (h.q : Int), .int .u8 (h.r : Int)] 34)) := blk_on (blk_alloc (blk_alloc (blk_alloc (blk_alloc Hh.out _) _) _) _) hb3
      have Gx : Hid (w3.heap[w2.heap.size]? = some (.cells #[.int .u32 (R.s : Int), .int .i64 n1] 24)) := blk_on (blk_alloc (blk_alloc (blk_alloc (blk_new w2 (.cells #[.int .u32 (R.s : Int), .int .i64 n1] 24)) _) _) _) hb3
      have Gy : Hid (w3.heap[w2.heap.size + 1]? = some (.cells #[.int .u32 (x2 : Int), .int .i64 n1] 24)) := blk_on (blk_alloc (blk_alloc (by simpa using blk_new (w2.alloc (.cells #[.int .u32 (R.s : Int), .int .i64 n1] 24)) (.cells #[.int .u32 (x2 : Int), .int .i64 n1] 24)) _) _) hb3
      have GU : Hid (w3.heap[w2.heap.size + 1 + 1]? = some (.cells #[.int .i64 R.i, .int .u32 (R.s : Int), .int .i64 n1, .int .u32 (R.d : Int), .int .i64 R.dl, .int .u16 (R.p.1 : Int), .int .u16 (R.p.2 : Int), .int .u16 (R.q.1 : Int), .int .u16 (R.q.2 : Int), .int .u8 (R.m.1 : Int), .int .u8 (R.m.2 : Int), .int .i64 R.act] 32)) := blk_on (blk_alloc (by simpa using blk_new ((w2.alloc (.cells #[.int .u32 (R.s : Int), .int .i64 n1] 24)).alloc (.cells #[.int .u32 (x2 : Int), .int .i64 n1] 24)) (.cells #[.int .i64 R.i, .int .u32 (R.s : Int), .int .i64 n1, .int .u32 (R.d : Int), .int .i64 R.dl, .int .u16 (R.p.1 : Int), .int .u16 (R.p.2 : Int), .int .u16 (R.q.1 : Int), .int .u16 (R.q.2 : Int), .int .u8 (R.m.1 : Int), .int .u8 (R.m.2 : Int), .int .i64 R.act] 32)) _) hb3
      have GV : Hid (w3.heap[w2.heap.size + 1 + 1 + 1]? = some (.cells #[.int .i64 R.i, .int .u32 (x2 : Int), .int .i64 n1, .int .u32 (R.d : Int), .int .i64 R.dl, .int .u16 (R.p.1 : Int), .int .u16 (R.p.2 : Int), .int .u16 (R.q.1 : Int), .int .u16 (R.q.2 : Int), .int .u8 (R.m.1 : Int), .int .u8 (R.m.2 : Int), .int .i64 R.act] 32)) := blk_on (by simpa using blk_new (((w2.alloc (.cells #[.int .u32 (R.s : Int), .int .i64 n1] 24)).alloc (.cells #[.int .u32 (x2 : Int), .int .i64 n1] 24)).alloc (.cells #[.int .i64 R.i, .int .u32 (R.s : Int), .int .i64 n1, .int .u32 (R.d : Int), .int .i64 R.dl, .int .u16 (R.p.1 : Int), .int .u16 (R.p.2 : Int), .int .u16 (R.q.1 : Int), .int .u16 (R.q.2 : Int), .int .u8 (R.m.1 : Int), .int .u8 (R.m.2 : Int), .int .i64 R.act] 32)) (.cells #[.int .i64 R.i, .int .u32 (x2 : Int), .int .i64 n1, .int .u32 (R.d : Int), .int .i64 R.dl, .int .u16 (R.p.1 : Int), .int .u16 (R.p.2 : Int), .int .u16 (R.q.1 : Int), .int .u16 (R.q.2 : Int), .int .u8 (R.m.1 : Int), .int .u8 (R.m.2 : Int), .int .i64 R.act] 32)) hb3
      have HO3 : Hid (w2.heap.size + 1 + 1 + 1 < w3.heap.size) := blk_lt GV.out
      have hbl3 : Hid (Below w.heap.size w w3) := bel_step hbl2.out (bel_a4 _ _ _ _ _) hb3
      clear HR Hh R_0 R_1 R_2 R_3 R_4 R_5 R_6 R_7 R_8 R_9 R_10 R_11 lR nR lh nh nR1 lR1 nR2 lR2 nR3 lR3 nh1 lh1 nh2 lh2 nh3 lh3 hb3 hbl2
      have HR := GR
      clear GR
      have Hh := Gh
      clear Gh
      have Hx := Gx
      clear Gx
      have Hy := Gy
      clear Gy
      have HU := GU
      clear GU
      have HV := GV
      clear GV
      have lR := blk_lt HR.out
      have nR : ¬ w.heap.size = w3.heap.size := by omega
      have lh := blk_lt Hh.out
      have nh : ¬ w.heap.size + 1 = w3.heap.size := by omega
      have lx := blk_lt Hx.out
      have nx : ¬ w2.heap.size = w3.heap.size := by omega
      have ly := blk_lt Hy.out
      have ny : ¬ w2.heap.size + 1 = w3.heap.size := by omega
      have lU := blk_lt HU.out
      have nU : ¬ w2.heap.size + 1 + 1 = w3.heap.size := by omega
      have lV := blk_lt HV.out
      have nV : ¬ w2.heap.size + 1 + 1 + 1 = w3.heap.size := by omega
      obtain ⟨V_0, V_1, V_2, V_3, V_4, V_5, V_6, V_7, V_8, V_9, V_10, V_11⟩ := blk12 HV.out
      go_wp2_with (fail)
      refine (kV _).mono ?_
      rintro e w4 ⟨rfl, hb4⟩
      have GR : Hid (w4.heap[w.heap.size]? = some (.cells #[.int .i64 R.i, .int .u32 (R.s : Int), .int .i64 R.sl, .int .u32 (R.d : Int), .int .i64 R.dl, .int .u16 (R.p.1 : Int), .int .u16 (R.p.2 : Int), .int .u16 (R.q.1 : Int), .int .u16 (R.q.2 : Int), .int .u8 (R.m.1 : Int), .int .u8 (R.m.2 : Int), .int .i64 R.act] 32)) := blk_on HR.out hb4
      have Gh : Hid (w4.heap[w.heap.size + 1]? = some (.cells #[.int .u32 (h.s : Int), .int .u32 (h.d : Int), .int .u16 (h.p : Int), .int .u16 (h.q : Int), .int .u8 (h.r : Int)] 34)) := blk_on Hh.out hb4
      have Gx : Hid (w4.heap[w2.heap.size]? = some (.cells #[.int .u32 (R.s : Int), .int .i64 n1] 24)) := blk_on Hx.out hb4
      have Gy : Hid (w4.heap[w2.heap.size + 1]? = some (.cells #[.int .u32 (x2 : Int), .int .i64 n1] 24)) := blk_on Hy.out hb4
      have GU : Hid (w4.heap[w2.heap.size + 1 + 1]? = some (.cells #[.int .i64 R.i, .int .u32 (R.s : Int), .int .i64 n1, .int .u32 (R.d : Int), .int .i64 R.dl, .int .u16 (R.p.1 : Int), .int .u16 (R.p.2 : Int), .int .u16 (R.q.1 : Int), .int .u16 (R.q.2 : Int), .int .u8 (R.m.1 : Int), .int .u8 (R.m.2 : Int), .int .i64 R.act] 32)) := blk_on HU.out hb4
      have GV : Hid (w4.heap[w2.heap.size + 1 + 1 + 1]? = some (.cells #[.int .i64 R.i, .int .u32 (x2 : Int), .int .i64 n1, .int .u32 (R.d : Int), .int .i64 R.dl, .int .u16 (R.p.1 : Int), .int .u16 (R.p.2 : Int), .int .u16 (R.q.1 : Int), .int .u16 (R.q.2 : Int), .int .u8 (R.m.1 : Int), .int .u8 (R.m.2 : Int), .int .i64 R.act] 32)) := blk_on HV.out hb4
      have hbl4 : Hid (Below w.heap.size w w4) := bel_step hbl3.out (bel_a0 _) hb4
      clear HR Hh Hx Hy HU HV V_0 V_1 V_2 V_3 V_4 V_5 V_6 V_7 V_8 V_9 V_10 V_11 lR nR lh nh lx nx ly ny lU nU lV nV hb4 hbl3
      have HR := GR
      clear GR
      have Hh := Gh
      clear Gh
      have Hx := Gx
      clear Gx
      have Hy := Gy
      clear Gy
      have HU := GU
      clear GU
      have HV := GV
      clear GV
      have lR := blk_lt HR.out
      have nR : ¬ w.heap.size = w4.heap.size := by omega
      have lh := blk_lt Hh.out
      have nh : ¬ w.heap.size + 1 = w4.heap.size := by omega
      have lx := blk_lt Hx.out
      have nx : ¬ w2.heap.size = w4.heap.size := by omega
      have ly := blk_lt Hy.out
      have ny : ¬ w2.heap.size + 1 = w4.heap.size := by omega
      have lU := blk_lt HU.out
      have nU : ¬ w2.heap.size + 1 + 1 = w4.heap.size := by omega
      have lV := blk_lt HV.out
      have nV : ¬ w2.heap.size + 1 + 1 + 1 = w4.heap.size := by omega
      obtain ⟨R_0, R_1, R_2, R_3, R_4, R_5, R_6, R_7, R_8, R_9, R_10, R_11⟩ := blk12 HR.out
      go_wp2_with (fail)
      refine (kR _).mono ?_
      rintro e w5 ⟨rfl, hb5⟩
      have GR : Hid (w5.heap[w.heap.size]? = some (.cells #[.int .i64 R.i, .int .u32 (R.s : Int), .int .i64 R.sl, .int .u32 (R.d : Int), .int .i64 R.dl, .int .u16 (R.p.1 : Int), .int .u16 (R.p.2 : Int), .int .u16 (R.q.1 : Int), .int .u16 (R.q.2 : Int), .int .u8 (R.m.1 : Int), .int .u8 (R.m.2 : Int), .int .i64 R.act] 32)) := blk_on HR.out hb5
      have Gh : Hid (w5.heap[w.heap.size + 1]? = some (.cells #[.int .u32 (h.s : Int), .int .u32 (h.d : Int), .int .u16 (h.p : Int), .int .u16 (h.q : Int), .int .u8 (h.r : Int)] 34)) := blk_on Hh.out hb5
      have Gx : Hid (w5.heap[w2.heap.size]? = some (.cells #[.int .u32 (R.s : Int), .int .i64 n1] 24)) := blk_on Hx.out hb5
      have Gy : Hid (w5.heap[w2.heap.size + 1]? = some (.cells #[.int .u32 (x2 : Int), .int .i64 n1] 24)) := blk_on Hy.out hb5
      have GU : Hid (w5.heap[w2.heap.size + 1 + 1]? = some (.cells #[.int .i64 R.i, .int .u32 (R.s : Int), .int .i64 n1, .int .u32 (R.d : Int), .int .i64 R.dl, .int .u16 (R.p.1 : Int), .int .u16 (R.p.2 : Int), .int .u16 (R.q.1 : Int), .int .u16 (R.q.2 : Int), .int .u8 (R.m.1 : Int), .int .u8 (R.m.2 : Int), .int .i64 R.act] 32)) := blk_on HU.out hb5
      have GV : Hid (w5.heap[w2.heap.size + 1 + 1 + 1]? = some (.cells #[.int .i64 R.i, .int .u32 (x2 : Int), .int .i64 n1, .int .u32 (R.d : Int), .int .i64 R.dl, .int .u16 (R.p.1 : Int), .int .u16 (R.p.2 : Int), .int .u16 (R.q.1 : Int), .int .u16 (R.q.2 : Int), .int .u8 (R.m.1 : Int), .int .u8 (R.m.2 : Int), .int .i64 R.act] 32)) := blk_on HV.out hb5
      have hbl5 : Hid (Below w.heap.size w w5) := bel_step hbl4.out (bel_a0 _) hb5
      clear HR Hh Hx Hy HU HV R_0 R_1 R_2 R_3 R_4 R_5 R_6 R_7 R_8 R_9 R_10 R_11 lR nR lh nh lx nx ly ny lU nU lV nV hb5 hbl4
      have HR := GR
      clear GR
      have Hh := Gh
      clear Gh
      have Hx := Gx
      clear Gx
      have Hy := Gy
      clear Gy
      have HU := GU
      clear GU
      have HV := GV
      clear GV
      have lR := blk_lt HR.out
      have nR : ¬ w.heap.size = w5.heap.size := by omega
      have lh := blk_lt Hh.out
      have nh : ¬ w.heap.size + 1 = w5.heap.size := by omega
      have lx := blk_lt Hx.out
      have nx : ¬ w2.heap.size = w5.heap.size := by omega
      have ly := blk_lt Hy.out
      have ny : ¬ w2.heap.size + 1 = w5.heap.size := by omega
      have lU := blk_lt HU.out
      have nU : ¬ w2.heap.size + 1 + 1 = w5.heap.size := by omega
      have lV := blk_lt HV.out
      have nV : ¬ w2.heap.size + 1 + 1 + 1 = w5.heap.size := by omega
      obtain ⟨U_0, U_1, U_2, U_3, U_4, U_5, U_6, U_7, U_8, U_9, U_10, U_11⟩ := blk12 HU.out
      obtain ⟨V_0, V_1, V_2, V_3, V_4, V_5, V_6, V_7, V_8, V_9, V_10, V_11⟩ := blk12 HV.out
      go_wp2_with (fail)
      refine (kM _).mono ?_
      rintro e w6 ⟨rfl, hb6⟩
      have GR : Hid (w6.heap[w.heap.size]? = some (.cells #[.int .i64 R.i, .int .u32 (R.s : Int), .int .i64 R.sl, .int .u32 (R.d : Int), .int .i64 R.dl, .int .u16 (R.p.1 : Int), .int .u16 (R.p.2 : Int), .int .u16 (R.q.1 : Int), .int .u16 (R.q.2 : Int), .int .u8 (R.m.1 : Int), .int .u8 (R.m.2 : Int), .int .i64 R.act] 32)) := blk_on HR.out hb6
      have Gh : Hid (w6.heap[w.heap.size + 1]? = some (.cells #[.int .u32 (h.s : Int), .int .u32 (h.d : Int), .int .u16 (h.p : Int), .int .u16 (h.q : Int), .int .u8 (h.r : Int)] 34)) := blk_on Hh.out hb6
      have Gx : Hid (w6.heap[w2.heap.size]? = some (.cells #[.int .u32 (R.s : Int), .int .i64 n1] 24)) := blk_on Hx.out hb6
      have Gy : Hid (w6.heap[w2.heap.size + 1]? = some (.cells #[.int .u32 (x2 : Int), .int .i64 n1] 24)) := blk_on Hy.out hb6
      have GU : Hid (w6.heap[w2.heap.size + 1 + 1]? = some (.cells #[.int .i64 R.i, .int .u32 (R.s : Int), .int .i64 n1, .int .u32 (R.d : Int), .int .i64 R.dl, .int .u16 (R.p.1 : Int), .int .u16 (R.p.2 : Int), .int .u16 (R.q.1 : Int), .int .u16 (R.q.2 : Int), .int .u8 (R.m.1 : Int), .int .u8 (R.m.2 : Int), .int .i64 R.act] 32)) := blk_on HU.out hb6
      have GV : Hid (w6.heap[w2.heap.size + 1 + 1 + 1]? = some (.cells #[.int .i64 R.i, .int .u32 (x2 : Int), .int .i64 n1, .int .u32 (R.d : Int), .int .i64 R.dl, .int .u16 (R.p.1 : Int), .int .u16 (R.p.2 : Int), .int .u16 (R.q.1 : Int), .int .u16 (R.q.2 : Int), .int .u8 (R.m.1 : Int), .int .u8 (R.m.2 : Int), .int .i64 R.act] 32)) := blk_on HV.out hb6
      have hbl6 : Hid (Below w.heap.size w w6) := bel_step hbl5.out (bel_a0 _) hb6
      clear HR Hh Hx Hy HU HV U_0 U_1 U_2 U_3 U_4 U_5 U_6 U_7 U_8 U_9 U_10 U_11 V_0 V_1 V_2 V_3 V_4 V_5 V_6 V_7 V_8 V_9 V_10 V_11 lR nR lh nh lx nx ly ny lU nU lV nV hb6 hbl5
      have HR := GR
      clear GR
      have Hh := Gh
      clear Gh
      have Hx := Gx
      clear Gx
      have Hy := Gy
      clear Gy
      have HU := GU
      clear GU
      have HV := GV
      clear GV
      have lR := blk_lt HR.out
      have nR : ¬ w.heap.size = w6.heap.size := by omega
      have lh := blk_lt Hh.out
      have nh : ¬ w.heap.size + 1 = w6.heap.size := by omega
      have lx := blk_lt Hx.out
      have nx : ¬ w2.heap.size = w6.heap.size := by omega
      have ly := blk_lt Hy.out
      have ny : ¬ w2.heap.size + 1 = w6.heap.size := by omega
      have lU := blk_lt HU.out
      have nU : ¬ w2.heap.size + 1 + 1 = w6.heap.size := by omega
      have lV := blk_lt HV.out
      have nV : ¬ w2.heap.size + 1 + 1 + 1 = w6.heap.size := by omega
      obtain ⟨R_0, R_1, R_2, R_3, R_4, R_5, R_6, R_7, R_8, R_9, R_10, R_11⟩ := blk12 HR.out
      obtain ⟨h_0, h_1, h_2, h_3, h_4⟩ := blk5 Hh.out
      go_wp2_with (fail)
      refine (mR _).mono ?_
      rintro e w7 ⟨rfl, hb7⟩
      have GR : Hid (w7.heap[w.heap.size]? = some (.cells #[.int .i64 R.i, .int .u32 (R.s : Int), .int .i64 R.sl, .int .u32 (R.d : Int), .int .i64 R.dl, .int .u16 (R.p.1 : Int), .int .u16 (R.p.2 : Int), .int .u16 (R.q.1 : Int), .int .u16 (R.q.2 : Int), .int .u8 (R.m.1 : Int), .int .u8 (R.m.2 : Int), .int .i64 R.act] 32)) := blk_on (blk_alloc HR.out _) hb7
      have Gh : Hid (w7.heap[w.heap.size + 1]? = some (.cells #[.int .u32 (h.s : Int), .int .u32 (h.d : Int), .int .u16 (h.p : Int), .int .u16 (h.q : Int), .int .u8 (h.r : Int)] 34)) := blk_on (blk_alloc Hh.out _) hb7
      have Gx : Hid (w7.heap[w2.heap.size]? = some (.cells #[.int .u32 (R.s : Int), .int .i64 n1] 24)) := blk_on (blk_alloc Hx.out _) hb7
      have Gy : Hid (w7.heap[w2.heap.size + 1]? = some (.cells #[.int .u32 (x2 : Int), .int .i64 n1] 24)) := blk_on (blk_alloc Hy.out _) hb7
      have GU : Hid (w7.heap[w2.heap.size + 1 + 1]? = some (.cells #[.int .i64 R.i, .int .u32 (R.s : Int), .int .i64 n1, .int .u32 (R.d : Int), .int .i64 R.dl, .int .u16 (R.p.1 : Int), .int .u16 (R.p.2 : Int), .int .u16 (R.q.1 : Int), .int .u16 (R.q.2 : Int), .int .u8 (R.m.1 : Int), .int .u8 (R.m.2 : Int), .int .i64 R.act] 32)) := blk_on (blk_alloc HU.out _) hb7
      have GV : Hid (w7.heap[w2.heap.size + 1 + 1 + 1]? = some (.cells #[.int .i64 R.i, .int .u32 (x2 : Int), .int .i64 n1, .int .u32 (R.d : Int), .int .i64 R.dl, .int .u16 (R.p.1 : Int), .int .u16 (R.p.2 : Int), .int .u16 (R.q.1 : Int), .int .u16 (R.q.2 : Int), .int .u8 (R.m.1 : Int), .int .u8 (R.m.2 : Int), .int .i64 R.act] 32)) := blk_on (blk_alloc HV.out _) hb7
      have Gz : Hid (w7.heap[w6.heap.size]? = some (.cells #[.int .u32 (Z.s : Int), .int .u32 (Z.d : Int), .int .u16 (Z.p : Int), .int .u16 (Z.q : Int), .int .u8 (Z.r : Int)] 34)) := blk_on (blk_new w6 (.cells #[.int .u32 (Z.s : Int), .int .u32 (Z.d : Int), .int .u16 (Z.p : Int), .int .u16 (Z.q : Int), .int .u8 (Z.r : Int)] 34)) hb7
      have HO7 : Hid (w6.heap.size < w7.heap.size) := blk_lt Gz.out
      have hbl7 : Hid (Below w.heap.size w w7) := bel_step hbl6.out (bel_a1 _ _) hb7
      clear HR Hh Hx Hy HU HV R_0 R_1 R_2 R_3 R_4 R_5 R_6 R_7 R_8 R_9 R_10 R_11 h_0 h_1 h_2 h_3 h_4 lR nR lh nh lx nx ly ny lU nU lV nV hb7 hbl6
      have HR := GR
      clear GR
      have Hh := Gh
      clear Gh
      have Hx := Gx
      clear Gx
      have Hy := Gy
      clear Gy
      have HU := GU
      clear GU
      have HV := GV
      clear GV
      have Hz := Gz
      clear Gz
      have lR := blk_lt HR.out
      have nR : ¬ w.heap.size = w7.heap.size := by omega
      have lh := blk_lt Hh.out
      have nh : ¬ w.heap.size + 1 = w7.heap.size := by omega
      have lx := blk_lt Hx.out
      have nx : ¬ w2.heap.size = w7.heap.size := by omega
      have ly := blk_lt Hy.out
      have ny : ¬ w2.heap.size + 1 = w7.heap.size := by omega
      have lU := blk_lt HU.out
      have nU : ¬ w2.heap.size + 1 + 1 = w7.heap.size := by omega
      have lV := blk_lt HV.out
      have nV : ¬ w2.heap.size + 1 + 1 + 1 = w7.heap.size := by omega
      have lz := blk_lt Hz.out
      have nz : ¬ w6.heap.size = w7.heap.size := by omega
      obtain ⟨U_0, U_1, U_2, U_3, U_4, U_5, U_6, U_7, U_8, U_9, U_10, U_11⟩ := blk12 HU.out
      obtain ⟨h_0, h_1, h_2, h_3, h_4⟩ := blk5 Hh.out
      go_wp2_with (fail)
      refine (mU _).mono ?_
      rintro e w8 ⟨rfl, hb8⟩
      have GR : Hid (w8.heap[w.heap.size]? = some (.cells #[.int .i64 R.i, .int .u32 (R.s : Int), .int .i64 R.sl, .int .u32 (R.d : Int), .int .i64 R.dl, .int .u16 (R.p.1 : Int), .int .u16 (R.p.2 : Int), .int .u16 (R.q.1 : Int), .int .u16 (R.q.2 : Int), .int .u8 (R.m.1 : Int), .int .u8 (R.m.2 : Int), .int .i64 R.act] 32)) := blk_on HR.out hb8
      have Gh : Hid (w8.heap[w.heap.size + 1]? = some (.cells #[.int .u32 (h.s : Int), .int .u32 (h.d : Int), .int .u16 (h.p : Int), .int .u16 (h.q : Int), .int .u8 (h.r : Int)] 34)) := blk_on Hh.out hb8
      have Gx : Hid (w8.heap[w2.heap.size]? = some (.cells #[.int .u32 (R.s : Int), .int .i64 n1] 24)) := blk_on Hx.out hb8
      have Gy : Hid (w8.heap[w2.heap.size + 1]? = some (.cells #[.int .u32 (x2 : Int), .int .i64 n1] 24)) := blk_on Hy.out hb8
      have GU : Hid (w8.heap[w2.heap.size + 1 + 1]? = some (.cells #[.int .i64 R.i, .int .u32 (R.s : Int), .int .i64 n1, .int .u32 (R.d : Int), .int .i64 R.dl, .int .u16 (R.p.1 : Int), .int .u16 (R.p.2 : Int), .int .u16 (R.q.1 : Int), .int .u16 (R.q.2 : Int), .int .u8 (R.m.1 : Int), .int .u8 (R.m.2 : Int), .int .i64 R.act] 32)) := blk_on HU.out hb8
      have GV : Hid (w8.heap[w2.heap.size + 1 + 1 + 1]? = some (.cells #[.int .i64 R.i, .int .u32 (x2 : Int), .int .i64 n1, .int .u32 (R.d : Int), .int .i64 R.dl, .int .u16 (R.p.1 : Int), .int .u16 (R.p.2 : Int), .int .u16 (R.q.1 : Int), .int .u16 (R.q.2 : Int), .int .u8 (R.m.1 : Int), .int .u8 (R.m.2 : Int), .int .i64 R.act] 32)) := blk_on HV.out hb8
      have Gz : Hid (w8.heap[w6.heap.size]? = some (.cells #[.int .u32 (Z.s : Int), .int .u32 (Z.d : Int), .int .u16 (Z.p : Int), .int .u16 (Z.q : Int), .int .u8 (Z.r : Int)] 34)) := blk_on Hz.out hb8
      have hbl8 : Hid (Below w.heap.size w w8) := bel_step hbl7.out (bel_a0 _) hb8
      clear HR Hh Hx Hy HU HV Hz U_0 U_1 U_2 U_3 U_4 U_5 U_6 U_7 U_8 U_9 U_10 U_11 h_0 h_1 h_2 h_3 h_4 lR nR lh nh lx nx ly ny lU nU lV nV lz nz hb8 hbl7
      have HR := GR
      clear GR
      have Hh := Gh
      clear Gh
      have Hx := Gx
      clear Gx
      have Hy := Gy
      clear Gy
      have HU := GU
      clear GU
      have HV := GV
      clear GV
      have Hz := Gz
      clear Gz
      have lR := blk_lt HR.out
      have nR : ¬ w.heap.size = w8.heap.size := by omega
      have lh := blk_lt Hh.out
      have nh : ¬ w.heap.size + 1 = w8.heap.size := by omega
      have lx := blk_lt Hx.out
      have nx : ¬ w2.heap.size = w8.heap.size := by omega
      have ly := blk_lt Hy.out
      have ny : ¬ w2.heap.size + 1 = w8.heap.size := by omega
      have lU := blk_lt HU.out
      have nU : ¬ w2.heap.size + 1 + 1 = w8.heap.size := by omega
      have lV := blk_lt HV.out
      have nV : ¬ w2.heap.size + 1 + 1 + 1 = w8.heap.size := by omega
      have lz := blk_lt Hz.out
      have nz : ¬ w6.heap.size = w8.heap.size := by omega
      obtain ⟨V_0, V_1, V_2, V_3, V_4, V_5, V_6, V_7, V_8, V_9, V_10, V_11⟩ := blk12 HV.out
      obtain ⟨h_0, h_1, h_2, h_3, h_4⟩ := blk5 Hh.out
      go_wp2_with (fail)
      refine (mV _).mono ?_
      rintro e w9 ⟨rfl, hb9⟩
      have GR : Hid (w9.heap[w.heap.size]? = some (.cells #[.int .i64 R.i, .int .u32 (R.s : Int), .int .i64 R.sl, .int .u32 (R.d : Int), .int .i64 R.dl, .int .u16 (R.p.1 : Int), .int .u16 (R.p.2 : Int), .int .u16 (R.q.1 : Int), .int .u16 (R.q.2 : Int), .int .u8 (R.m.1 : Int), .int .u8 (R.m.2 : Int), .int .i64 R.act] 32)) := blk_on HR.out hb9
      have Gh : Hid (w9.heap[w.heap.size + 1]? = some (.cells #[.int .u32 (h.s : Int), .int .u32 (h.d : Int), .int .u16 (h.p : Int), .int .u16 (h.q : Int), .int .u8 (h.r : Int)] 34)) := blk_on Hh.out hb9
      have Gx : Hid (w9.heap[w2.heap.size]? = some (.cells #[.int .u32 (R.s : Int), .int .i64 n1] 24)) := blk_on Hx.out hb9
      have Gy : Hid (w9.heap[w2.heap.size + 1]? = some (.cells #[.int .u32 (x2 : Int), .int .i64 n1] 24)) := blk_on Hy.out hb9
      have GU : Hid (w9.heap[w2.heap.size + 1 + 1]? = some (.cells #[.int .i64 R.i, .int .u32 (R.s : Int), .int .i64 n1, .int .u32 (R.d : Int), .int .i64 R.dl, .int .u16 (R.p.1 : Int), .int .u16 (R.p.2 : Int), .int .u16 (R.q.1 : Int), .int .u16 (R.q.2 : Int), .int .u8 (R.m.1 : Int), .int .u8 (R.m.2 : Int), .int .i64 R.act] 32)) := blk_on HU.out hb9
      have GV : Hid (w9.heap[w2.heap.size + 1 + 1 + 1]? = some (.cells #[.int .i64 R.i, .int .u32 (x2 : Int), .int .i64 n1, .int .u32 (R.d : Int), .int .i64 R.dl, .int .u16 (R.p.1 : Int), .int .u16 (R.p.2 : Int), .int .u16 (R.q.1 : Int), .int .u16 (R.q.2 : Int), .int .u8 (R.m.1 : Int), .int .u8 (R.m.2 : Int), .int .i64 R.act] 32)) := blk_on HV.out hb9
      have Gz : Hid (w9.heap[w6.heap.size]? = some (.cells #[.int .u32 (Z.s : Int), .int .u32 (Z.d : Int), .int .u16 (Z.p : Int), .int .u16 (Z.q : Int), .int .u8 (Z.r : Int)] 34)) := blk_on Hz.out hb9
      have hbl9 : Hid (Below w.heap.size w w9) := bel_step hbl8.out (bel_a0 _) hb9
      clear HR Hh Hx Hy HU HV Hz V_0 V_1 V_2 V_3 V_4 V_5 V_6 V_7 V_8 V_9 V_10 V_11 h_0 h_1 h_2 h_3 h_4 lR nR lh nh lx nx ly ny lU nU lV nV lz nz hb9 hbl8
      have HR := GR
      clear GR
      have Hh := Gh
      clear Gh
      have Hx := Gx
      clear Gx
      have Hy := Gy
      clear Gy
      have HU := GU
      clear GU
      have HV := GV
      clear GV
      have Hz := Gz
      clear Gz
      have lR := blk_lt HR.out
      have nR : ¬ w.heap.size = w9.heap.size := by omega
      have lh := blk_lt Hh.out
      have nh : ¬ w.heap.size + 1 = w9.heap.size := by omega
      have lx := blk_lt Hx.out
      have nx : ¬ w2.heap.size = w9.heap.size := by omega
      have ly := blk_lt Hy.out
      have ny : ¬ w2.heap.size + 1 = w9.heap.size := by omega
      have lU := blk_lt HU.out
      have nU : ¬ w2.heap.size + 1 + 1 = w9.heap.size := by omega
      have lV := blk_lt HV.out
      have nV : ¬ w2.heap.size + 1 + 1 + 1 = w9.heap.size := by omega
      have lz := blk_lt Hz.out
      have nz : ¬ w6.heap.size = w9.heap.size := by omega
      rcases HMM.out with ⟨g1, g2, g3⟩ | ⟨g1, g2, g3⟩ | ⟨g1, g2, g3⟩
      · subst g1 g2 g3
        go_wp2_with (fail)
        refine (awakeR _).mono ?_
        rintro e w10 ⟨rfl, hb10⟩
        have GR : Hid (w10.heap[w.heap.size]? = some (.cells #[.int .i64 R.i, .int .u32 (R.s : Int), .int .i64 R.sl, .int .u32 (R.d : Int), .int .i64 R.dl, .int .u16 (R.p.1 : Int), .int .u16 (R.p.2 : Int), .int .u16 (R.q.1 : Int), .int .u16 (R.q.2 : Int), .int .u8 (R.m.1 : Int), .int .u8 (R.m.2 : Int), .int .i64 R.act] 32)) := blk_on HR.out hb10
        have Gh : Hid (w10.heap[w.heap.size + 1]? = some (.cells #[.int .u32 (h.s : Int), .int .u32 (h.d : Int), .int .u16 (h.p : Int), .int .u16 (h.q : Int), .int .u8 (h.r : Int)] 34)) := blk_on Hh.out hb10
        have Gx : Hid (w10.heap[w2.heap.size]? = some (.cells #[.int .u32 (R.s : Int), .int .i64 n1] 24)) := blk_on Hx.out hb10
        have Gy : Hid (w10.heap[w2.heap.size + 1]? = some (.cells #[.int .u32 (x2 : Int), .int .i64 n1] 24)) := blk_on Hy.out hb10
        have GU : Hid (w10.heap[w2.heap.size + 1 + 1]? = some (.cells #[.int .i64 R.i, .int .u32 (R.s : Int), .int .i64 n1, .int .u32 (R.d : Int), .int .i64 R.dl, .int .u16 (R.p.1 : Int), .int .u16 (R.p.2 : Int), .int .u16 (R.q.1 : Int), .int .u16 (R.q.2 : Int), .int .u8 (R.m.1 : Int), .int .u8 (R.m.2 : Int), .int .i64 R.act] 32)) := blk_on HU.out hb10
        have GV : Hid (w10.heap[w2.heap.size + 1 + 1 + 1]? = some (.cells #[.int .i64 R.i, .int .u32 (x2 : Int), .int .i64 n1, .int .u32 (R.d : Int), .int .i64 R.dl, .int .u16 (R.p.1 : Int), .int .u16 (R.p.2 : Int), .int .u16 (R.q.1 : Int), .int .u16 (R.q.2 : Int), .int .u8 (R.m.1 : Int), .int .u8 (R.m.2 : Int), .int .i64 R.act] 32)) := blk_on HV.out hb10
        have Gz : Hid (w10.heap[w6.heap.size]? = some (.cells #[.int .u32 (Z.s : Int), .int .u32 (Z.d : Int), .int .u16 (Z.p : Int), .int .u16 (Z.q : Int), .int .u8 (Z.r : Int)] 34)) := blk_on Hz.out hb10
        have hbl10 : Hid (Below w.heap.size w w10) := bel_step hbl9.out (bel_a0 _) hb10
        clear HR Hh Hx Hy HU HV Hz lR nR lh nh lx nx ly ny lU nU lV nV lz nz hb10 hbl9
        have HR := GR
        clear GR
        have Hh := Gh
        clear Gh
        have Hx := Gx
        clear Gx
        have Hy := Gy
        clear Gy
        have HU := GU
        clear GU
        have HV := GV
        clear GV
        have Hz := Gz
        clear Gz
        have lR := blk_lt HR.out
        have nR : ¬ w.heap.size = w10.heap.size := by omega
        have lh := blk_lt Hh.out
        have nh : ¬ w.heap.size + 1 = w10.heap.size := by omega
        have lx := blk_lt Hx.out
        have nx : ¬ w2.heap.size = w10.heap.size := by omega
        have ly := blk_lt Hy.out
        have ny : ¬ w2.heap.size + 1 = w10.heap.size := by omega
        have lU := blk_lt HU.out
        have nU : ¬ w2.heap.size + 1 + 1 = w10.heap.size := by omega
        have lV := blk_lt HV.out
        have nV : ¬ w2.heap.size + 1 + 1 + 1 = w10.heap.size := by omega
        have lz := blk_lt Hz.out
        have nz : ¬ w6.heap.size = w10.heap.size := by omega
        go_wp2_with (fail)
        go_ret
        exact ⟨rfl, hbl10.out⟩
      · subst g1 g2 g3
        go_wp2_with (fail)
        refine (awakeR _).mono ?_
        rintro e w10 ⟨rfl, hb10⟩
        have GR : Hid (w10.heap[w.heap.size]? = some (.cells #[.int .i64 R.i, .int .u32 (R.s : Int), .int .i64 R.sl, .int .u32 (R.d : Int), .int .i64 R.dl, .int .u16 (R.p.1 : Int), .int .u16 (R.p.2 : Int), .int .u16 (R.q.1 : Int), .int .u16 (R.q.2 : Int), .int .u8 (R.m.1 : Int), .int .u8 (R.m.2 : Int), .int .i64 R.act] 32)) := blk_on HR.out hb10
        have Gh : Hid (w10.heap[w.heap.size + 1]? = some (.cells #[.int .u32 (h.s : Int), .int .u32 (h.d : Int), .int .u16 (h.p : Int), .int .u16 (h.q : Int), .int .u8 (h.r : Int)] 34)) := blk_on Hh.out hb10
        have Gx : Hid (w10.heap[w2.heap.size]? = some (.cells #[.int .u32 (R.s : Int), .int .i64 n1] 24)) := blk_on Hx.out hb10
        have Gy : Hid (w10.heap[w2.heap.size + 1]? = some (.cells #[.int .u32 (x2 : Int), .int .i64 n1] 24)) := blk_on Hy.out hb10
        have GU : Hid (w10.heap[w2.heap.size + 1 + 1]? = some (.cells #[.int .i64 R.i, .int .u32 (R.s : Int), .int .i64 n1, .int .u32 (R.d : Int), .int .i64 R.dl, .int .u16 (R.p.1 : Int), .int .u16 (R.p.2 : Int), .int .u16 (R.q.1 : Int), .int .u16 (R.q.2 : Int), .int .u8 (R.m.1 : Int), .int .u8 (R.m.2 : Int), .int .i64 R.act] 32)) := blk_on HU.out hb10
        have GV : Hid (w10.heap[w2.heap.size + 1 + 1 + 1]? = some (.cells #[.int .i64 R.i, .int .u32 (x2 : Int), .int .i64 n1, .int .u32 (R.d : Int), .int .i64 R.dl, .int .u16 (R.p.1 : Int), .int .u16 (R.p.2 : Int), .int .u16 (R.q.1 : Int), .int .u16 (R.q.2 : Int), .int .u8 (R.m.1 : Int), .int .u8 (R.m.2 : Int), .int .i64 R.act] 32)) := blk_on HV.out hb10
        have Gz : Hid (w10.heap[w6.heap.size]? = some (.cells #[.int .u32 (Z.s : Int), .int .u32 (Z.d : Int), .int .u16 (Z.p : Int), .int .u16 (Z.q : Int), .int .u8 (Z.r : Int)] 34)) := blk_on Hz.out hb10
        have hbl10 : Hid (Below w.heap.size w w10) := bel_step hbl9.out (bel_a0 _) hb10
        clear HR Hh Hx Hy HU HV Hz lR nR lh nh lx nx ly ny lU nU lV nV lz nz hb10 hbl9
        have HR := GR
        clear GR
        have Hh := Gh
        clear Gh
        have Hx := Gx
        clear Gx
        have Hy := Gy
        clear Gy
        have HU := GU
        clear GU
        have HV := GV
        clear GV
        have Hz := Gz
        clear Gz
        have lR := blk_lt HR.out
        have nR : ¬ w.heap.size = w10.heap.size := by omega
        have lh := blk_lt Hh.out
        have nh : ¬ w.heap.size + 1 = w10.heap.size := by omega
        have lx := blk_lt Hx.out
        have nx : ¬ w2.heap.size = w10.heap.size := by omega
        have ly := blk_lt Hy.out
        have ny : ¬ w2.heap.size + 1 = w10.heap.size := by omega
        have lU := blk_lt HU.out
        have nU : ¬ w2.heap.size + 1 + 1 = w10.heap.size := by omega
        have lV := blk_lt HV.out
        have nV : ¬ w2.heap.size + 1 + 1 + 1 = w10.heap.size := by omega
        have lz := blk_lt Hz.out
        have nz : ¬ w6.heap.size = w10.heap.size := by omega
        go_wp2_with (fail)
        go_ret
        exact ⟨rfl, hbl10.out⟩
      · subst g1 g2 g3
        go_wp2_with (fail)
        refine (awakeR _).mono ?_
        rintro e w10 ⟨rfl, hb10⟩
        have GR : Hid (w10.heap[w.heap.size]? = some (.cells #[.int .i64 R.i, .int .u32 (R.s : Int), .int .i64 R.sl, .int .u32 (R.d : Int), .int .i64 R.dl, .int .u16 (R.p.1 : Int), .int .u16 (R.p.2 : Int), .int .u16 (R.q.1 : Int), .int .u16 (R.q.2 : Int), .int .u8 (R.m.1 : Int), .int .u8 (R.m.2 : Int), .int .i64 R.act] 32)) := blk_on HR.out hb10
        have Gh : Hid (w10.heap[w.heap.size + 1]? = some (.cells #[.int .u32 (h.s : Int), .int .u32 (h.d : Int), .int .u16 (h.p : Int), .int .u16 (h.q : Int), .int .u8 (h.r : Int)] 34)) := blk_on Hh.out hb10
        have Gx : Hid (w10.heap[w2.heap.size]? = some (.cells #[.int .u32 (R.s : Int), .int .i64 n1] 24)) := blk_on Hx.out hb10
        have Gy : Hid (w10.heap[w2.heap.size + 1]? = some (.cells #[.int .u32 (x2 : Int), .int .i64 n1] 24)) := blk_on Hy.out hb10
        have GU : Hid (w10.heap[w2.heap.size + 1 + 1]? = some (.cells #[.int .i64 R.i, .int .u32 (R.s : Int), .int .i64 n1, .int .u32 (R.d : Int), .int .i64 R.dl, .int .u16 (R.p.1 : Int), .int .u16 (R.p.2 : Int), .int .u16 (R.q.1 : Int), .int .u16 (R.q.2 : Int), .int .u8 (R.m.1 : Int), .int .u8 (R.m.2 : Int), .int .i64 R.act] 32)) := blk_on HU.out hb10
        have GV : Hid (w10.heap[w2.heap.size + 1 + 1 + 1]? = some (.cells #[.int .i64 R.i, .int .u32 (x2 : Int), .int .i64 n1, .int .u32 (R.d : Int), .int .i64 R.dl, .int .u16 (R.p.1 : Int), .int .u16 (R.p.2 : Int), .int .u16 (R.q.1 : Int), .int .u16 (R.q.2 : Int), .int .u8 (R.m.1 : Int), .int .u8 (R.m.2 : Int), .int .i64 R.act] 32)) := blk_on HV.out hb10
        have Gz : Hid (w10.heap[w6.heap.size]? = some (.cells #[.int .u32 (Z.s : Int), .int .u32 (Z.d : Int), .int .u16 (Z.p : Int), .int .u16 (Z.q : Int), .int .u8 (Z.r : Int)] 34)) := blk_on Hz.out hb10
        have hbl10 : Hid (Below w.heap.size w w10) := bel_step hbl9.out (bel_a0 _) hb10
        clear HR Hh Hx Hy HU HV Hz lR nR lh nh lx nx ly ny lU nU lV nV lz nz hb10 hbl9
        have HR := GR
        clear GR
        have Hh := Gh
        clear Gh
        have Hx := Gx
        clear Gx
        have Hy := Gy
        clear Gy
        have HU := GU
        clear GU
        have HV := GV
        clear GV
        have Hz := Gz
        clear Gz
        have lR := blk_lt HR.out
        have nR : ¬ w.heap.size = w10.heap.size := by omega
        have lh := blk_lt Hh.out
        have nh : ¬ w.heap.size + 1 = w10.heap.size := by omega
        have lx := blk_lt Hx.out
        have nx : ¬ w2.heap.size = w10.heap.size := by omega
        have ly := blk_lt Hy.out
        have ny : ¬ w2.heap.size + 1 = w10.heap.size := by omega
        have lU := blk_lt HU.out
        have nU : ¬ w2.heap.size + 1 + 1 = w10.heap.size := by omega
        have lV := blk_lt HV.out
        have nV : ¬ w2.heap.size + 1 + 1 + 1 = w10.heap.size := by omega
        have lz := blk_lt Hz.out
        have nz : ¬ w6.heap.size = w10.heap.size := by omega
        go_wp2_with (fail)
        go_ret
        exact ⟨rfl, hbl10.out⟩
    · have hf1 : ¬ Pf.hE R.s R.sl = 0 := hf
      generalize Pf.hA R.s R.sl = x1 at *
      generalize Pf.hB R.s R.sl = x2 at *
      generalize Pf.hN R.s R.sl = n1 at *
      generalize Pf.hE R.s R.sl = f at *
      clear ho bR oh hf
      go_enter Tryz.func3, Tryz.ntmps3
      go_wp2_with (fail)
      refine (hC _).mono ?_
      rintro e w1 ⟨rfl, hb1⟩
      have GR : Hid (w1.heap[w.heap.size]? = some (.cells #[.int .i64 R.i, .int .u32 (R.s : Int), .int .i64 R.sl, .int .u32 (R.d : Int), .int .i64 R.dl, .int .u16 (R.p.1 : Int), .int .u16 (R.p.2 : Int), .int .u16 (R.q.1 : Int), .int .u16 (R.q.2 : Int), .int .u8 (R.m.1 : Int), .int .u8 (R.m.2 : Int), .int .i64 R.act] 32)) := blk_on (blk_alloc (blk_new w (.cells #[.int .i64 R.i, .int .u32 (R.s : Int), .int .i64 R.sl, .int .u32 (R.d : Int), .int .i64 R.dl, .int .u16 (R.p.1 : Int), .int .u16 (R.p.2 : Int), .int .u16 (R.q.1 : Int), .int .u16 (R.q.2 : Int), .int .u8 (R.m.1 : Int), .int .u8 (R.m.2 : Int), .int .i64 R.act] 32)) _) hb1
      have Gh : Hid (w1.heap[w.heap.size + 1]? = some (.cells #[.int .u32 (h.s : Int), .int .u32 (h.d : Int), .int .u16 (h.p : Int), .int .u16 (h.q : Int), .int .u8 (h.r : Int)] 34)) := blk_on (by simpa using blk_new (w.alloc (.cells #[.int .i64 R.i, .int .u32 (R.s : Int), .int .i64 R.sl, .int .u32 (R.d : Int), .int .i64 R.dl, .int .u16 (R.p.1 : Int), .int .u16 (R.p.2 : Int), .int .u16 (R.q.1 : Int), .int .u16 (R.q.2 : Int), .int .u8 (R.m.1 : Int), .int .u8 (R.m.2 : Int), .int .i64 R.act] 32)) (.cells #[.int .u32 (h.s : Int), .int .u32 (h.d : Int), .int .u16 (h.p : Int), .int .u16 (h.q : Int), .int .u8 (h.r : Int)] 34)) hb1
      have HO1 : Hid (w.heap.size + 1 < w1.heap.size) := blk_lt Gh.out
      have hbl1 : Hid (Below w.heap.size w w1) := bel_step (Below.refl _ _) (bel_a2 _ _ _) hb1
      clear hb1
      have HR := GR
      clear GR
      have Hh := Gh
      clear Gh
      have lR := blk_lt HR.out
      have nR : ¬ w.heap.size = w1.heap.size := by omega
      have lh := blk_lt Hh.out
      have nh : ¬ w.heap.size + 1 = w1.heap.size := by omega
      obtain ⟨R_0, R_1, R_2, R_3, R_4, R_5, R_6, R_7, R_8, R_9, R_10, R_11⟩ := blk12 HR.out
      go_wp2_with (fail)
      refine (hV _).mono ?_
      rintro e w2 ⟨rfl, hb2⟩
      have GR : Hid (w2.heap[w.heap.size]? = some (.cells #[.int .i64 R.i, .int .u32 (R.s : Int), .int .i64 R.sl, .int .u32 (R.d : Int), .int .i64 R.dl, .int .u16 (R.p.1 : Int), .int .u16 (R.p.2 : Int), .int .u16 (R.q.1 : Int), .int .u16 (R.q.2 : Int), .int .u8 (R.m.1 : Int), .int .u8 (R.m.2 : Int), .int .i64 R.act] 32)) := blk_on HR.out hb2
      have Gh : Hid (w2.heap[w.heap.size + 1]? = some (.cells #[.int .u32 (h.s : Int), .int .u32 (h.d : Int), .int .u16 (h.p : Int), .int .u16 (h.q : Int), .int .u8 (h.r : Int)] 34)) := blk_on Hh.out hb2
      have hbl2 : Hid (Below w.heap.size w w2) := bel_step hbl1.out (bel_a0 _) hb2
      clear HR Hh R_0 R_1 R_2 R_3 R_4 R_5 R_6 R_7 R_8 R_9 R_10 R_11 lR nR lh nh hb2 hbl1
      have HR := GR
      clear GR
      have Hh := Gh
      clear Gh
      have lR := blk_lt HR.out
      have nR : ¬ w.heap.size = w2.heap.size := by omega
      have lh := blk_lt Hh.out
      have nh : ¬ w.heap.size + 1 = w2.heap.size := by omega
      go_wp2_with (fail)
      refine (awakeR _).mono ?_
      rintro e w3 ⟨rfl, hb3⟩
      have GR : Hid (w3.heap[w.heap.size]? = some (.cells #[.int .i64 R.i, .int .u32 (R.s : Int), .int .i64 R.sl, .int .u32 (R.d : Int), .int .i64 R.dl, .int .u16 (R.p.1 : Int), .int .u16 (R.p.2 : Int), .int .u16 (R.q.1 : Int), .int .u16 (R.q.2 : Int), .int .u8 (R.m.1 : Int), .int .u8 (R.m.2 : Int), .int .i64 R.act] 32)) := blk_on (blk_alloc (blk_alloc HR.out _) _) hb3
      have Gh : Hid (w3.heap[w.heap.size + 1]? = some (.cells #[.int .u32 (h.s : Int), .int .u32 (h.d : Int), .int .u16 (h.p : Int), .int .u16 (h.q : Int), .int .u8 (h.r : Int)] 34)) := blk_on (blk_alloc (blk_alloc Hh.out _) _) hb3
      have Gx : Hid (w3.heap[w2.heap.size]? = some (.cells #[.int .u32 (x1 : Int), .int .i64 n1] 24)) := blk_on (blk_alloc (blk_new w2 (.cells #[.int .u32 (x1 : Int), .int .i64 n1] 24)) _) hb3
      have Gy : Hid (w3.heap[w2.heap.size + 1]? = some (.cells #[.int .u32 (x2 : Int), .int .i64 n1] 24)) := blk_on (by simpa using blk_new (w2.alloc (.cells #[.int .u32 (x1 : Int), .int .i64 n1] 24)) (.cells #[.int .u32 (x2 : Int), .int .i64 n1] 24)) hb3
      have HO3 : Hid (w2.heap.size + 1 < w3.heap.size) := blk_lt Gy.out
      have hbl3 : Hid (Below w.heap.size w w3) := bel_step hbl2.out (bel_a2 _ _ _) hb3
      clear HR Hh lR nR lh nh hb3 hbl2
      have HR := GR
      clear GR
      have Hh := Gh
      clear Gh
      have Hx := Gx
      clear Gx
      have Hy := Gy
      clear Gy
      have lR := blk_lt HR.out
      have nR : ¬ w.heap.size = w3.heap.size := by omega
      have lh := blk_lt Hh.out
      have nh : ¬ w.heap.size + 1 = w3.heap.size := by omega
      have lx := blk_lt Hx.out
      have nx : ¬ w2.heap.size = w3.heap.size := by omega
      have ly := blk_lt Hy.out
      have ny : ¬ w2.heap.size + 1 = w3.heap.size := by omega
      go_wp2_with (fail)
      go_ret
      exact ⟨rfl, hbl3.out⟩

set_option maxRecDepth 100000 in
theorem ruleHalves_lifted (os : Os) (started : os.Started) (H : Type) (enc : TypeId × Value → H) :
    ReturnsInHanded {} Tryz.checked os 3 .any (Rows.ruleHalvesSpec.pre6 enc Tryz.prog Tryz.f3 Rows.ruleHalvesRow.domain false) (Rows.ruleHalvesSpec.post enc Tryz.prog Tryz.f3 false true false false) := by
  refine returnsInHanded_of_change (C := Tryz.checked) own started (by kernel_rfl) Tryz.func3
    (ChangeSpec.witness6 (enc := enc) (C := Tryz.checked) false ⟨#[], #[.agg #[.int .i64 0, .int .u32 0, .int .i64 0, .int .u32 0, .int .i64 0, .int .u16 0, .int .u16 0, .int .u16 0, .int .u16 0, .int .u8 0, .int .u8 0, .int .i64 0], .agg #[.int .u32 0, .int .u32 0, .int .u16 0, .int .u16 0, .int .u8 0]], []⟩ 8 (by kernel_rfl) (by kernel_rfl) (by kernel_rfl) (by kernel_rfl)) ?_
  intro W base args ds gs before hval0 hW hcnd _
  have hval : ∀ (j : Nat) t v, Tryz.f3.params[j]? = some t → args[j]? = some v → Value.okWide Tryz.prog W .any base t v := hval0
  have hW' := hW
  obtain ⟨p, q, hA0, hV, rfl, hfz, hnd⟩ := hW
  have hA : DataW.TrodAll enc Tryz.prog W 0 (fun _ => true) true Tryz.f3.params.toList args.toList ds p := hA0
  rw [Tryz.params3] at hA hval
  obtain ⟨v0, vs0, d0, ds0, p0, q0, hargs, rfl, rfl, h0, r0⟩ := trodAll_cons hA
  obtain ⟨v1, vs1, d1, ds1, p1, q1, rfl, rfl, rfl, h1, r1⟩ := trodAll_cons r0
  obtain ⟨rfl, rfl, rfl⟩ := trodAll_nil r1
  obtain rfl : args = #[v0, v1] := by cases args; simp_all
  obtain ⟨rfl, rfl⟩ := trodVars_none hV
  obtain ⟨g0, rfl, rfl, rfl, o0⟩ := open_ru (hval 0 32 v0 rfl rfl) h0
  obtain ⟨g1, rfl, rfl, rfl, o1⟩ := open_hd (hval 1 34 v1 rfl rfl) h1
  clear hA0 hval0
  simp only [List.append_nil] at hW'
  refine (ruleHalves_walk g0 o0 g1 o1 W ).mono fun e W' ⟨he, bel⟩ => ?_
  subst he
  exact ⟨_, rfl, _, _, _, [], _, [], hW', trodAll_mk1 (shut_bool Tryz.underlying4 _), (trodAll_cons_mk (shut_ru o0) (trodAll_cons_mk (shut_hd o1) trodAll_mk0)), rfl, bel.frame _, fun h => by cases h⟩

/-- The given statement. -/
theorem ruleHalves_holds : Rows.RuleHalvesSaid :=
  OpenClaim.holds_of_wide 3 Tryz.f3 rfl rfl rfl rfl rfl rfl rfl ⟨rfl, rfl, rfl, rfl, rfl⟩ rfl rfl rfl rfl rfl (by kernel_rfl) Tryz.func3 (by kernel_rfl)
    (of_decide_eq_true (by kernel_rfl)) (by unfold Func.isWrapper; first | (rw [if_pos (by decide +kernel)]; kernel_rfl) | (rw [if_neg (by decide +kernel)]; exact ⟨rfl, rfl⟩))
    (fun os started H enc _ => ruleHalves_lifted os started H enc)
#print axioms ruleHalves_holds
end Go.Proofs.YtebljklpkoheaabGreat
