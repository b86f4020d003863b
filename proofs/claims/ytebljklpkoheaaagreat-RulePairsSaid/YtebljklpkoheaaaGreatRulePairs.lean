/-
  For any two rules, rule.Meets and rule.Within answer as the document says (P8.4), both ways; and the examples of the document hold.
  Conditions: none; the law holds for every input.
-/
import Derived.Test.YtebljklpkoheaaaGreatRuAw
import Derived.Test.YtebljklpkoheaaaGreatRuRd
import Derived.Test.YtebljklpkoheaaaGreatRuFrame
namespace Go.Proofs.YtebljklpkoheaaaGreat
open Go.ChangeShapes Go.WideShapes Go.ChangeAt Go.RowKit Go.Joins
set_option linter.unusedVariables false
set_option linter.unusedSimpArgs false

set_option maxRecDepth 20000 in
set_option maxHeartbeats 8000000 in
theorem rulePairs_walk (A : Ru) (bA : BdR A) (B : Ru) (bB : BdR B) (w : World) :
    Calls Tryz.prog 4 #[.agg #[.int .i64 A.i, .int .u32 (A.s : Int), .int .i64 A.sl, .int .u32 (A.d : Int), .int .i64 A.dl, .int .u16 (A.p.1 : Int), .int .u16 (A.p.2 : Int), .int .u16 (A.q.1 : Int), .int .u16 (A.q.2 : Int), .int .u8 (A.m.1 : Int), .int .u8 (A.m.2 : Int), .int .i64 A.act], .agg #[.int .i64 B.i, .int .u32 (B.s : Int), .int .i64 B.sl, .int .u32 (B.d : Int), .int .i64 B.dl, .int .u16 (B.p.1 : Int), .int .u16 (B.p.2 : Int), .int .u16 (B.q.1 : Int), .int .u16 (B.q.2 : Int), .int .u8 (B.m.1 : Int), .int .u8 (B.m.2 : Int), .int .i64 B.act]] w fun e w' => e = .returned (.bool true) ∧ Below w.heap.size w w' := by
  have h1 := fun W => meetsC A B W bA bB
  have h2 := fun W => rmeetsR A B W bA bB
  have h3 := fun W => meetsC B A W bB bA
  have h4 := fun W => rmeetsR B A W bB bA
  rw [meetR_comm B A, bothR_comm B A] at h3 h4
  have h5 : ∀ (P Q : Ru) (W : World), BdR P → BdR Q → Calls Tryz.prog 20 #[.agg #[.int .i64 P.i, .int .u32 (P.s : Int), .int .i64 P.sl, .int .u32 (P.d : Int), .int .i64 P.dl, .int .u16 (P.p.1 : Int), .int .u16 (P.p.2 : Int), .int .u16 (P.q.1 : Int), .int .u16 (P.q.2 : Int), .int .u8 (P.m.1 : Int), .int .u8 (P.m.2 : Int), .int .i64 P.act], .agg #[.int .i64 Q.i, .int .u32 (Q.s : Int), .int .i64 Q.sl, .int .u32 (Q.d : Int), .int .i64 Q.dl, .int .u16 (Q.p.1 : Int), .int .u16 (Q.p.2 : Int), .int .u16 (Q.q.1 : Int), .int .u16 (Q.q.2 : Int), .int .u8 (Q.m.1 : Int), .int .u8 (Q.m.2 : Int), .int .i64 Q.act]] W fun e w' => e = .returned (.bool (wiR P Q)) ∧ Below W.heap.size W w' := withinRC
  have h6 : ∀ (P Q : Ru) (W : World), BdR P → BdR Q → Calls Tryz.prog 21 #[.agg #[.int .i64 P.i, .int .u32 (P.s : Int), .int .i64 P.sl, .int .u32 (P.d : Int), .int .i64 P.dl, .int .u16 (P.p.1 : Int), .int .u16 (P.p.2 : Int), .int .u16 (P.q.1 : Int), .int .u16 (P.q.2 : Int), .int .u8 (P.m.1 : Int), .int .u8 (P.m.2 : Int), .int .i64 P.act], .agg #[.int .i64 Q.i, .int .u32 (Q.s : Int), .int .i64 Q.sl, .int .u32 (Q.d : Int), .int .i64 Q.dl, .int .u16 (Q.p.1 : Int), .int .u16 (Q.p.2 : Int), .int .u16 (Q.q.1 : Int), .int .u16 (Q.q.2 : Int), .int .u8 (Q.m.1 : Int), .int .u8 (Q.m.2 : Int), .int .i64 Q.act]] W fun e w' => e = .returned (.bool (wiR P Q)) ∧ Below W.heap.size W w' := rwithinR
  have hk : ∀ W, Sem.run Tryz.prog (binOp .eql 34 (.agg #[.int .u32 ((meetR A B).s : Int), .int .u32 ((meetR A B).d : Int), .int .u16 ((meetR A B).p : Int), .int .u16 ((meetR A B).q : Int), .int .u8 ((meetR A B).r : Int)]) (.agg #[.int .u32 ((meetR A B).s : Int), .int .u32 ((meetR A B).d : Int), .int .u16 ((meetR A B).p : Int), .int .u16 ((meetR A B).q : Int), .int .u8 ((meetR A B).r : Int)])) W = .ok (.bool true) W := fun W => by have e := eqH_any (meetR A B) (meetR A B) W; rw [decide_eq_true rfl] at e; exact e
  generalize meetR A B = M at *
  generalize bothR A B = r at *
  go_enter Tryz.func4, Tryz.ntmps4
  go_wp2_with (fail)
  refine (h1 _).mono ?_
  rintro e w1 ⟨rfl, hb1⟩
  have GA : Hid (w1.heap[w.heap.size]? = some (.cells #[.int .i64 A.i, .int .u32 (A.s : Int), .int .i64 A.sl, .int .u32 (A.d : Int), .int .i64 A.dl, .int .u16 (A.p.1 : Int), .int .u16 (A.p.2 : Int), .int .u16 (A.q.1 : Int), .int .u16 (A.q.2 : Int), .int .u8 (A.m.1 : Int), .int .u8 (A.m.2 : Int), .int .i64 A.act] 32)) := blk_on (blk_alloc (blk_new w (.cells #[.int .i64 A.i, .int .u32 (A.s : Int), .int .i64 A.sl, .int .u32 (A.d : Int), .int .i64 A.dl, .int .u16 (A.p.1 : Int), .int .u16 (A.p.2 : Int), .int .u16 (A.q.1 : Int), .int .u16 (A.q.2 : Int), .int .u8 (A.m.1 : Int), .int .u8 (A.m.2 : Int), .int .i64 A.act] 32)) _) hb1
  have GB : Hid (w1.heap[w.heap.size + 1]? = some (.cells #[.int .i64 B.i, .int .u32 (B.s : Int), .int .i64 B.sl, .int .u32 (B.d : Int), .int .i64 B.dl, .int .u16 (B.p.1 : Int), .int .u16 (B.p.2 : Int), .int .u16 (B.q.1 : Int), .int .u16 (B.q.2 : Int), .int .u8 (B.m.1 : Int), .int .u8 (B.m.2 : Int), .int .i64 B.act] 32)) := blk_on (by simpa using blk_new (w.alloc (.cells #[.int .i64 A.i, .int .u32 (A.s : Int), .int .i64 A.sl, .int .u32 (A.d : Int), .int .i64 A.dl, .int .u16 (A.p.1 : Int), .int .u16 (A.p.2 : Int), .int .u16 (A.q.1 : Int), .int .u16 (A.q.2 : Int), .int .u8 (A.m.1 : Int), .int .u8 (A.m.2 : Int), .int .i64 A.act] 32)) (.cells #[.int .i64 B.i, .int .u32 (B.s : Int), .int .i64 B.sl, .int .u32 (B.d : Int), .int .i64 B.dl, .int .u16 (B.p.1 : Int), .int .u16 (B.p.2 : Int), .int .u16 (B.q.1 : Int), .int .u16 (B.q.2 : Int), .int .u8 (B.m.1 : Int), .int .u8 (B.m.2 : Int), .int .i64 B.act] 32)) hb1
  have HO1 : Hid (w.heap.size + 1 < w1.heap.size) := blk_lt GB.out
  have hbl1 : Hid (Below w.heap.size w w1) := bel_step (Below.refl _ _) (bel_a2 _ _ _) hb1
  clear hb1
  have HA := GA
  clear GA
  have HB := GB
  clear GB
  have lA := blk_lt HA.out
  have nA : ¬ w.heap.size = w1.heap.size := by omega
  have lB := blk_lt HB.out
  have nB : ¬ w.heap.size + 1 = w1.heap.size := by omega
  obtain ⟨A_0, A_1, A_2, A_3, A_4, A_5, A_6, A_7, A_8, A_9, A_10, A_11⟩ := blk12 HA.out
  obtain ⟨B_0, B_1, B_2, B_3, B_4, B_5, B_6, B_7, B_8, B_9, B_10, B_11⟩ := blk12 HB.out
  go_wp2_with (fail)
  refine (h2 _).mono ?_
  rintro e w2 ⟨rfl, hb2⟩
  have GA : Hid (w2.heap[w.heap.size]? = some (.cells #[.int .i64 A.i, .int .u32 (A.s : Int), .int .i64 A.sl, .int .u32 (A.d : Int), .int .i64 A.dl, .int .u16 (A.p.1 : Int), .int .u16 (A.p.2 : Int), .int .u16 (A.q.1 : Int), .int .u16 (A.q.2 : Int), .int .u8 (A.m.1 : Int), .int .u8 (A.m.2 : Int), .int .i64 A.act] 32)) := blk_on (blk_alloc HA.out _) hb2
  have GB : Hid (w2.heap[w.heap.size + 1]? = some (.cells #[.int .i64 B.i, .int .u32 (B.s : Int), .int .i64 B.sl, .int .u32 (B.d : Int), .int .i64 B.dl, .int .u16 (B.p.1 : Int), .int .u16 (B.p.2 : Int), .int .u16 (B.q.1 : Int), .int .u16 (B.q.2 : Int), .int .u8 (B.m.1 : Int), .int .u8 (B.m.2 : Int), .int .i64 B.act] 32)) := blk_on (blk_alloc HB.out _) hb2
  have Gm : Hid (w2.heap[w1.heap.size]? = some (.cells #[.int .u32 (M.s : Int), .int .u32 (M.d : Int), .int .u16 (M.p : Int), .int .u16 (M.q : Int), .int .u8 (M.r : Int)] 34)) := blk_on (blk_new w1 (.cells #[.int .u32 (M.s : Int), .int .u32 (M.d : Int), .int .u16 (M.p : Int), .int .u16 (M.q : Int), .int .u8 (M.r : Int)] 34)) hb2
  have HO2 : Hid (w1.heap.size < w2.heap.size) := blk_lt Gm.out
  have hbl2 : Hid (Below w.heap.size w w2) := bel_step hbl1.out (bel_a1 _ _) hb2
  clear HA HB A_0 A_1 A_2 A_3 A_4 A_5 A_6 A_7 A_8 A_9 A_10 A_11 B_0 B_1 B_2 B_3 B_4 B_5 B_6 B_7 B_8 B_9 B_10 B_11 lA nA lB nB hb2 hbl1
  have HA := GA
  clear GA
  have HB := GB
  clear GB
  have Hm := Gm
  clear Gm
  have lA := blk_lt HA.out
  have nA : ¬ w.heap.size = w2.heap.size := by omega
  have lB := blk_lt HB.out
  have nB : ¬ w.heap.size + 1 = w2.heap.size := by omega
  have lm := blk_lt Hm.out
  have nm : ¬ w1.heap.size = w2.heap.size := by omega
  obtain ⟨A_0, A_1, A_2, A_3, A_4, A_5, A_6, A_7, A_8, A_9, A_10, A_11⟩ := blk12 HA.out
  obtain ⟨B_0, B_1, B_2, B_3, B_4, B_5, B_6, B_7, B_8, B_9, B_10, B_11⟩ := blk12 HB.out
  go_wp2_with (fail)
  refine (h3 _).mono ?_
  rintro e w3 ⟨rfl, hb3⟩
  have GA : Hid (w3.heap[w.heap.size]? = some (.cells #[.int .i64 A.i, .int .u32 (A.s : Int), .int .i64 A.sl, .int .u32 (A.d : Int), .int .i64 A.dl, .int .u16 (A.p.1 : Int), .int .u16 (A.p.2 : Int), .int .u16 (A.q.1 : Int), .int .u16 (A.q.2 : Int), .int .u8 (A.m.1 : Int), .int .u8 (A.m.2 : Int), .int .i64 A.act] 32)) := blk_on (blk_alloc HA.out _) hb3
  have GB : Hid (w3.heap[w.heap.size + 1]? = some (.cells #[.int .i64 B.i, .int .u32 (B.s : Int), .int .i64 B.sl, .int .u32 (B.d : Int), .int .i64 B.dl, .int .u16 (B.p.1 : Int), .int .u16 (B.p.2 : Int), .int .u16 (B.q.1 : Int), .int .u16 (B.q.2 : Int), .int .u8 (B.m.1 : Int), .int .u8 (B.m.2 : Int), .int .i64 B.act] 32)) := blk_on (blk_alloc HB.out _) hb3
  have Gm : Hid (w3.heap[w1.heap.size]? = some (.cells #[.int .u32 (M.s : Int), .int .u32 (M.d : Int), .int .u16 (M.p : Int), .int .u16 (M.q : Int), .int .u8 (M.r : Int)] 34)) := blk_on (blk_alloc Hm.out _) hb3
  have Gn : Hid (w3.heap[w2.heap.size]? = some (.cells #[.int .u32 (M.s : Int), .int .u32 (M.d : Int), .int .u16 (M.p : Int), .int .u16 (M.q : Int), .int .u8 (M.r : Int)] 34)) := blk_on (blk_new w2 (.cells #[.int .u32 (M.s : Int), .int .u32 (M.d : Int), .int .u16 (M.p : Int), .int .u16 (M.q : Int), .int .u8 (M.r : Int)] 34)) hb3
  have HO3 : Hid (w2.heap.size < w3.heap.size) := blk_lt Gn.out
  have hbl3 : Hid (Below w.heap.size w w3) := bel_step hbl2.out (bel_a1 _ _) hb3
  clear HA HB Hm A_0 A_1 A_2 A_3 A_4 A_5 A_6 A_7 A_8 A_9 A_10 A_11 B_0 B_1 B_2 B_3 B_4 B_5 B_6 B_7 B_8 B_9 B_10 B_11 lA nA lB nB lm nm hb3 hbl2
  have HA := GA
  clear GA
  have HB := GB
  clear GB
  have Hm := Gm
  clear Gm
  have Hn := Gn
  clear Gn
  have lA := blk_lt HA.out
  have nA : ¬ w.heap.size = w3.heap.size := by omega
  have lB := blk_lt HB.out
  have nB : ¬ w.heap.size + 1 = w3.heap.size := by omega
  have lm := blk_lt Hm.out
  have nm : ¬ w1.heap.size = w3.heap.size := by omega
  have ln := blk_lt Hn.out
  have nn : ¬ w2.heap.size = w3.heap.size := by omega
  obtain ⟨A_0, A_1, A_2, A_3, A_4, A_5, A_6, A_7, A_8, A_9, A_10, A_11⟩ := blk12 HA.out
  obtain ⟨B_0, B_1, B_2, B_3, B_4, B_5, B_6, B_7, B_8, B_9, B_10, B_11⟩ := blk12 HB.out
  go_wp2_with (fail)
  refine (h4 _).mono ?_
  rintro e w4 ⟨rfl, hb4⟩
  have GA : Hid (w4.heap[w.heap.size]? = some (.cells #[.int .i64 A.i, .int .u32 (A.s : Int), .int .i64 A.sl, .int .u32 (A.d : Int), .int .i64 A.dl, .int .u16 (A.p.1 : Int), .int .u16 (A.p.2 : Int), .int .u16 (A.q.1 : Int), .int .u16 (A.q.2 : Int), .int .u8 (A.m.1 : Int), .int .u8 (A.m.2 : Int), .int .i64 A.act] 32)) := blk_on (blk_alloc HA.out _) hb4
  have GB : Hid (w4.heap[w.heap.size + 1]? = some (.cells #[.int .i64 B.i, .int .u32 (B.s : Int), .int .i64 B.sl, .int .u32 (B.d : Int), .int .i64 B.dl, .int .u16 (B.p.1 : Int), .int .u16 (B.p.2 : Int), .int .u16 (B.q.1 : Int), .int .u16 (B.q.2 : Int), .int .u8 (B.m.1 : Int), .int .u8 (B.m.2 : Int), .int .i64 B.act] 32)) := blk_on (blk_alloc HB.out _) hb4
  have Gm : Hid (w4.heap[w1.heap.size]? = some (.cells #[.int .u32 (M.s : Int), .int .u32 (M.d : Int), .int .u16 (M.p : Int), .int .u16 (M.q : Int), .int .u8 (M.r : Int)] 34)) := blk_on (blk_alloc Hm.out _) hb4
  have Gn : Hid (w4.heap[w2.heap.size]? = some (.cells #[.int .u32 (M.s : Int), .int .u32 (M.d : Int), .int .u16 (M.p : Int), .int .u16 (M.q : Int), .int .u8 (M.r : Int)] 34)) := blk_on (blk_alloc Hn.out _) hb4
  have Go : Hid (w4.heap[w3.heap.size]? = some (.cells #[.int .u32 (M.s : Int), .int .u32 (M.d : Int), .int .u16 (M.p : Int), .int .u16 (M.q : Int), .int .u8 (M.r : Int)] 34)) := blk_on (blk_new w3 (.cells #[.int .u32 (M.s : Int), .int .u32 (M.d : Int), .int .u16 (M.p : Int), .int .u16 (M.q : Int), .int .u8 (M.r : Int)] 34)) hb4
  have HO4 : Hid (w3.heap.size < w4.heap.size) := blk_lt Go.out
  have hbl4 : Hid (Below w.heap.size w w4) := bel_step hbl3.out (bel_a1 _ _) hb4
  clear HA HB Hm Hn A_0 A_1 A_2 A_3 A_4 A_5 A_6 A_7 A_8 A_9 A_10 A_11 B_0 B_1 B_2 B_3 B_4 B_5 B_6 B_7 B_8 B_9 B_10 B_11 lA nA lB nB lm nm ln nn hb4 hbl3
  have HA := GA
  clear GA
  have HB := GB
  clear GB
  have Hm := Gm
  clear Gm
  have Hn := Gn
  clear Gn
  have Ho := Go
  clear Go
  have lA := blk_lt HA.out
  have nA : ¬ w.heap.size = w4.heap.size := by omega
  have lB := blk_lt HB.out
  have nB : ¬ w.heap.size + 1 = w4.heap.size := by omega
  have lm := blk_lt Hm.out
  have nm : ¬ w1.heap.size = w4.heap.size := by omega
  have ln := blk_lt Hn.out
  have nn : ¬ w2.heap.size = w4.heap.size := by omega
  have lo := blk_lt Ho.out
  have no : ¬ w3.heap.size = w4.heap.size := by omega
  go_upto_region 5 with (fail)
  have kne : Nonempty (Kin ((w4.alloc (.cells #[.int .u32 (M.s : Int), .int .u32 (M.d : Int), .int .u16 (M.p : Int), .int .u16 (M.q : Int), .int .u8 (M.r : Int)] 34)))) := ⟨⟨_, Below.refl _ _⟩⟩
  have kbA : ∀ y : Kin ((w4.alloc (.cells #[.int .u32 (M.s : Int), .int .u32 (M.d : Int), .int .u16 (M.p : Int), .int .u16 (M.q : Int), .int .u8 (M.r : Int)] 34))), y.val.heap[w.heap.size]? = some (.cells #[.int .i64 A.i, .int .u32 (A.s : Int), .int .i64 A.sl, .int .u32 (A.d : Int), .int .i64 A.dl, .int .u16 (A.p.1 : Int), .int .u16 (A.p.2 : Int), .int .u16 (A.q.1 : Int), .int .u16 (A.q.2 : Int), .int .u8 (A.m.1 : Int), .int .u8 (A.m.2 : Int), .int .i64 A.act] 32) := fun y => blk_on (blk_alloc HA.out _) y.is
  have kcA_0 : ∀ y : Kin ((w4.alloc (.cells #[.int .u32 (M.s : Int), .int .u32 (M.d : Int), .int .u16 (M.p : Int), .int .u16 (M.q : Int), .int .u8 (M.r : Int)] 34))), y.val.cell? ⟨w.heap.size, 0, none⟩ = some (.int .i64 A.i) := fun y => blk_cell (kbA y) rfl
  have kcA_1 : ∀ y : Kin ((w4.alloc (.cells #[.int .u32 (M.s : Int), .int .u32 (M.d : Int), .int .u16 (M.p : Int), .int .u16 (M.q : Int), .int .u8 (M.r : Int)] 34))), y.val.cell? ⟨w.heap.size, 1, none⟩ = some (.int .u32 (A.s : Int)) := fun y => blk_cell (kbA y) rfl
  have kcA_2 : ∀ y : Kin ((w4.alloc (.cells #[.int .u32 (M.s : Int), .int .u32 (M.d : Int), .int .u16 (M.p : Int), .int .u16 (M.q : Int), .int .u8 (M.r : Int)] 34))), y.val.cell? ⟨w.heap.size, 2, none⟩ = some (.int .i64 A.sl) := fun y => blk_cell (kbA y) rfl
  have kcA_3 : ∀ y : Kin ((w4.alloc (.cells #[.int .u32 (M.s : Int), .int .u32 (M.d : Int), .int .u16 (M.p : Int), .int .u16 (M.q : Int), .int .u8 (M.r : Int)] 34))), y.val.cell? ⟨w.heap.size, 3, none⟩ = some (.int .u32 (A.d : Int)) := fun y => blk_cell (kbA y) rfl
  have kcA_4 : ∀ y : Kin ((w4.alloc (.cells #[.int .u32 (M.s : Int), .int .u32 (M.d : Int), .int .u16 (M.p : Int), .int .u16 (M.q : Int), .int .u8 (M.r : Int)] 34))), y.val.cell? ⟨w.heap.size, 4, none⟩ = some (.int .i64 A.dl) := fun y => blk_cell (kbA y) rfl
  have kcA_5 : ∀ y : Kin ((w4.alloc (.cells #[.int .u32 (M.s : Int), .int .u32 (M.d : Int), .int .u16 (M.p : Int), .int .u16 (M.q : Int), .int .u8 (M.r : Int)] 34))), y.val.cell? ⟨w.heap.size, 5, none⟩ = some (.int .u16 (A.p.1 : Int)) := fun y => blk_cell (kbA y) rfl
  have kcA_6 : ∀ y : Kin ((w4.alloc (.cells #[.int .u32 (M.s : Int), .int .u32 (M.d : Int), .int .u16 (M.p : Int), .int .u16 (M.q : Int), .int .u8 (M.r : Int)] 34))), y.val.cell? ⟨w.heap.size, 6, none⟩ = some (.int .u16 (A.p.2 : Int)) := fun y => blk_cell (kbA y) rfl
  have kcA_7 : ∀ y : Kin ((w4.alloc (.cells #[.int .u32 (M.s : Int), .int .u32 (M.d : Int), .int .u16 (M.p : Int), .int .u16 (M.q : Int), .int .u8 (M.r : Int)] 34))), y.val.cell? ⟨w.heap.size, 7, none⟩ = some (.int .u16 (A.q.1 : Int)) := fun y => blk_cell (kbA y) rfl
  have kcA_8 : ∀ y : Kin ((w4.alloc (.cells #[.int .u32 (M.s : Int), .int .u32 (M.d : Int), .int .u16 (M.p : Int), .int .u16 (M.q : Int), .int .u8 (M.r : Int)] 34))), y.val.cell? ⟨w.heap.size, 8, none⟩ = some (.int .u16 (A.q.2 : Int)) := fun y => blk_cell (kbA y) rfl
  have kcA_9 : ∀ y : Kin ((w4.alloc (.cells #[.int .u32 (M.s : Int), .int .u32 (M.d : Int), .int .u16 (M.p : Int), .int .u16 (M.q : Int), .int .u8 (M.r : Int)] 34))), y.val.cell? ⟨w.heap.size, 9, none⟩ = some (.int .u8 (A.m.1 : Int)) := fun y => blk_cell (kbA y) rfl
  have kcA_10 : ∀ y : Kin ((w4.alloc (.cells #[.int .u32 (M.s : Int), .int .u32 (M.d : Int), .int .u16 (M.p : Int), .int .u16 (M.q : Int), .int .u8 (M.r : Int)] 34))), y.val.cell? ⟨w.heap.size, 10, none⟩ = some (.int .u8 (A.m.2 : Int)) := fun y => blk_cell (kbA y) rfl
  have kcA_11 : ∀ y : Kin ((w4.alloc (.cells #[.int .u32 (M.s : Int), .int .u32 (M.d : Int), .int .u16 (M.p : Int), .int .u16 (M.q : Int), .int .u8 (M.r : Int)] 34))), y.val.cell? ⟨w.heap.size, 11, none⟩ = some (.int .i64 A.act) := fun y => blk_cell (kbA y) rfl
  clear kbA
  have kbB : ∀ y : Kin ((w4.alloc (.cells #[.int .u32 (M.s : Int), .int .u32 (M.d : Int), .int .u16 (M.p : Int), .int .u16 (M.q : Int), .int .u8 (M.r : Int)] 34))), y.val.heap[w.heap.size + 1]? = some (.cells #[.int .i64 B.i, .int .u32 (B.s : Int), .int .i64 B.sl, .int .u32 (B.d : Int), .int .i64 B.dl, .int .u16 (B.p.1 : Int), .int .u16 (B.p.2 : Int), .int .u16 (B.q.1 : Int), .int .u16 (B.q.2 : Int), .int .u8 (B.m.1 : Int), .int .u8 (B.m.2 : Int), .int .i64 B.act] 32) := fun y => blk_on (blk_alloc HB.out _) y.is
  have kcB_0 : ∀ y : Kin ((w4.alloc (.cells #[.int .u32 (M.s : Int), .int .u32 (M.d : Int), .int .u16 (M.p : Int), .int .u16 (M.q : Int), .int .u8 (M.r : Int)] 34))), y.val.cell? ⟨w.heap.size + 1, 0, none⟩ = some (.int .i64 B.i) := fun y => blk_cell (kbB y) rfl
  have kcB_1 : ∀ y : Kin ((w4.alloc (.cells #[.int .u32 (M.s : Int), .int .u32 (M.d : Int), .int .u16 (M.p : Int), .int .u16 (M.q : Int), .int .u8 (M.r : Int)] 34))), y.val.cell? ⟨w.heap.size + 1, 1, none⟩ = some (.int .u32 (B.s : Int)) := fun y => blk_cell (kbB y) rfl
  have kcB_2 : ∀ y : Kin ((w4.alloc (.cells #[.int .u32 (M.s : Int), .int .u32 (M.d : Int), .int .u16 (M.p : Int), .int .u16 (M.q : Int), .int .u8 (M.r : Int)] 34))), y.val.cell? ⟨w.heap.size + 1, 2, none⟩ = some (.int .i64 B.sl) := fun y => blk_cell (kbB y) rfl
  have kcB_3 : ∀ y : Kin ((w4.alloc (.cells #[.int .u32 (M.s : Int), .int .u32 (M.d : Int), .int .u16 (M.p : Int), .int .u16 (M.q : Int), .int .u8 (M.r : Int)] 34))), y.val.cell? ⟨w.heap.size + 1, 3, none⟩ = some (.int .u32 (B.d : Int)) := fun y => blk_cell (kbB y) rfl
  have kcB_4 : ∀ y : Kin ((w4.alloc (.cells #[.int .u32 (M.s : Int), .int .u32 (M.d : Int), .int .u16 (M.p : Int), .int .u16 (M.q : Int), .int .u8 (M.r : Int)] 34))), y.val.cell? ⟨w.heap.size + 1, 4, none⟩ = some (.int .i64 B.dl) := fun y => blk_cell (kbB y) rfl
  have kcB_5 : ∀ y : Kin ((w4.alloc (.cells #[.int .u32 (M.s : Int), .int .u32 (M.d : Int), .int .u16 (M.p : Int), .int .u16 (M.q : Int), .int .u8 (M.r : Int)] 34))), y.val.cell? ⟨w.heap.size + 1, 5, none⟩ = some (.int .u16 (B.p.1 : Int)) := fun y => blk_cell (kbB y) rfl
  have kcB_6 : ∀ y : Kin ((w4.alloc (.cells #[.int .u32 (M.s : Int), .int .u32 (M.d : Int), .int .u16 (M.p : Int), .int .u16 (M.q : Int), .int .u8 (M.r : Int)] 34))), y.val.cell? ⟨w.heap.size + 1, 6, none⟩ = some (.int .u16 (B.p.2 : Int)) := fun y => blk_cell (kbB y) rfl
  have kcB_7 : ∀ y : Kin ((w4.alloc (.cells #[.int .u32 (M.s : Int), .int .u32 (M.d : Int), .int .u16 (M.p : Int), .int .u16 (M.q : Int), .int .u8 (M.r : Int)] 34))), y.val.cell? ⟨w.heap.size + 1, 7, none⟩ = some (.int .u16 (B.q.1 : Int)) := fun y => blk_cell (kbB y) rfl
  have kcB_8 : ∀ y : Kin ((w4.alloc (.cells #[.int .u32 (M.s : Int), .int .u32 (M.d : Int), .int .u16 (M.p : Int), .int .u16 (M.q : Int), .int .u8 (M.r : Int)] 34))), y.val.cell? ⟨w.heap.size + 1, 8, none⟩ = some (.int .u16 (B.q.2 : Int)) := fun y => blk_cell (kbB y) rfl
  have kcB_9 : ∀ y : Kin ((w4.alloc (.cells #[.int .u32 (M.s : Int), .int .u32 (M.d : Int), .int .u16 (M.p : Int), .int .u16 (M.q : Int), .int .u8 (M.r : Int)] 34))), y.val.cell? ⟨w.heap.size + 1, 9, none⟩ = some (.int .u8 (B.m.1 : Int)) := fun y => blk_cell (kbB y) rfl
  have kcB_10 : ∀ y : Kin ((w4.alloc (.cells #[.int .u32 (M.s : Int), .int .u32 (M.d : Int), .int .u16 (M.p : Int), .int .u16 (M.q : Int), .int .u8 (M.r : Int)] 34))), y.val.cell? ⟨w.heap.size + 1, 10, none⟩ = some (.int .u8 (B.m.2 : Int)) := fun y => blk_cell (kbB y) rfl
  have kcB_11 : ∀ y : Kin ((w4.alloc (.cells #[.int .u32 (M.s : Int), .int .u32 (M.d : Int), .int .u16 (M.p : Int), .int .u16 (M.q : Int), .int .u8 (M.r : Int)] 34))), y.val.cell? ⟨w.heap.size + 1, 11, none⟩ = some (.int .i64 B.act) := fun y => blk_cell (kbB y) rfl
  clear kbB
  refine wp_region_kin ((w4.alloc (.cells #[.int .u32 (M.s : Int), .int .u32 (M.d : Int), .int .u16 (M.p : Int), .int .u16 (M.q : Int), .int .u8 (M.r : Int)] 34))) (Below.refl _ _) (by kernel_rfl) (by kernel_rfl) ?_
  repeat (go_big_quiet_step (first | (go_at_call 20; exact kin_call (h5 _ _ _ (by assumption) (by assumption))) | (go_at_call 21; exact kin_call (h6 _ _ _ (by assumption) (by assumption)))))
  refine wpQuiet_nil ?_
  rintro wq ⟨⟨xq, hxq⟩, hyq⟩
  have hq : Below ((w4.alloc (.cells #[.int .u32 (M.s : Int), .int .u32 (M.d : Int), .int .u16 (M.p : Int), .int .u16 (M.q : Int), .int .u8 (M.r : Int)] 34))).heap.size ((w4.alloc (.cells #[.int .u32 (M.s : Int), .int .u32 (M.d : Int), .int .u16 (M.p : Int), .int .u16 (M.q : Int), .int .u8 (M.r : Int)] 34))) wq := by rw [hyq]; exact hxq
  clear hyq hxq xq kne kcA_0 kcA_1 kcA_2 kcA_3 kcA_4 kcA_5 kcA_6 kcA_7 kcA_8 kcA_9 kcA_10 kcA_11 kcB_0 kcB_1 kcB_2 kcB_3 kcB_4 kcB_5 kcB_6 kcB_7 kcB_8 kcB_9 kcB_10 kcB_11
  have hblq : Hid (Below w.heap.size w wq) := bel_step hbl4.out (bel_a1 _ _) hq
  have GA : Hid (wq.heap[w.heap.size]? = some (.cells #[.int .i64 A.i, .int .u32 (A.s : Int), .int .i64 A.sl, .int .u32 (A.d : Int), .int .i64 A.dl, .int .u16 (A.p.1 : Int), .int .u16 (A.p.2 : Int), .int .u16 (A.q.1 : Int), .int .u16 (A.q.2 : Int), .int .u8 (A.m.1 : Int), .int .u8 (A.m.2 : Int), .int .i64 A.act] 32)) := blk_on (blk_alloc HA.out _) hq
  have GB : Hid (wq.heap[w.heap.size + 1]? = some (.cells #[.int .i64 B.i, .int .u32 (B.s : Int), .int .i64 B.sl, .int .u32 (B.d : Int), .int .i64 B.dl, .int .u16 (B.p.1 : Int), .int .u16 (B.p.2 : Int), .int .u16 (B.q.1 : Int), .int .u16 (B.q.2 : Int), .int .u8 (B.m.1 : Int), .int .u8 (B.m.2 : Int), .int .i64 B.act] 32)) := blk_on (blk_alloc HB.out _) hq
  have Gm : Hid (wq.heap[w1.heap.size]? = some (.cells #[.int .u32 (M.s : Int), .int .u32 (M.d : Int), .int .u16 (M.p : Int), .int .u16 (M.q : Int), .int .u8 (M.r : Int)] 34)) := blk_on (blk_alloc Hm.out _) hq
  have Gn : Hid (wq.heap[w2.heap.size]? = some (.cells #[.int .u32 (M.s : Int), .int .u32 (M.d : Int), .int .u16 (M.p : Int), .int .u16 (M.q : Int), .int .u8 (M.r : Int)] 34)) := blk_on (blk_alloc Hn.out _) hq
  have Go : Hid (wq.heap[w3.heap.size]? = some (.cells #[.int .u32 (M.s : Int), .int .u32 (M.d : Int), .int .u16 (M.p : Int), .int .u16 (M.q : Int), .int .u8 (M.r : Int)] 34)) := blk_on (blk_alloc Ho.out _) hq
  have Gp : Hid (wq.heap[w4.heap.size]? = some (.cells #[.int .u32 (M.s : Int), .int .u32 (M.d : Int), .int .u16 (M.p : Int), .int .u16 (M.q : Int), .int .u8 (M.r : Int)] 34)) := blk_on (blk_new w4 (.cells #[.int .u32 (M.s : Int), .int .u32 (M.d : Int), .int .u16 (M.p : Int), .int .u16 (M.q : Int), .int .u8 (M.r : Int)] 34)) hq
  clear HA HB Hm Hn Ho lA nA lB nB lm nm ln nn lo no hq
  have HA := GA
  clear GA
  have HB := GB
  clear GB
  have Hm := Gm
  clear Gm
  have Hn := Gn
  clear Gn
  have Ho := Go
  clear Go
  have Hp := Gp
  clear Gp
  have lA := blk_lt HA.out
  have nA : ¬ w.heap.size = wq.heap.size := by omega
  have lB := blk_lt HB.out
  have nB : ¬ w.heap.size + 1 = wq.heap.size := by omega
  have lm := blk_lt Hm.out
  have nm : ¬ w1.heap.size = wq.heap.size := by omega
  have ln := blk_lt Hn.out
  have nn : ¬ w2.heap.size = wq.heap.size := by omega
  have lo := blk_lt Ho.out
  have no : ¬ w3.heap.size = wq.heap.size := by omega
  have lp := blk_lt Hp.out
  have np : ¬ w4.heap.size = wq.heap.size := by omega
  go_wp2_with (fail)
  refine (awakeR _).mono ?_
  rintro e w5 ⟨rfl, hb5⟩
  have GA : Hid (w5.heap[w.heap.size]? = some (.cells #[.int .i64 A.i, .int .u32 (A.s : Int), .int .i64 A.sl, .int .u32 (A.d : Int), .int .i64 A.dl, .int .u16 (A.p.1 : Int), .int .u16 (A.p.2 : Int), .int .u16 (A.q.1 : Int), .int .u16 (A.q.2 : Int), .int .u8 (A.m.1 : Int), .int .u8 (A.m.2 : Int), .int .i64 A.act] 32)) := blk_on HA.out hb5
  have GB : Hid (w5.heap[w.heap.size + 1]? = some (.cells #[.int .i64 B.i, .int .u32 (B.s : Int), .int .i64 B.sl, .int .u32 (B.d : Int), .int .i64 B.dl, .int .u16 (B.p.1 : Int), .int .u16 (B.p.2 : Int), .int .u16 (B.q.1 : Int), .int .u16 (B.q.2 : Int), .int .u8 (B.m.1 : Int), .int .u8 (B.m.2 : Int), .int .i64 B.act] 32)) := blk_on HB.out hb5
  have Gm : Hid (w5.heap[w1.heap.size]? = some (.cells #[.int .u32 (M.s : Int), .int .u32 (M.d : Int), .int .u16 (M.p : Int), .int .u16 (M.q : Int), .int .u8 (M.r : Int)] 34)) := blk_on Hm.out hb5
  have Gn : Hid (w5.heap[w2.heap.size]? = some (.cells #[.int .u32 (M.s : Int), .int .u32 (M.d : Int), .int .u16 (M.p : Int), .int .u16 (M.q : Int), .int .u8 (M.r : Int)] 34)) := blk_on Hn.out hb5
  have Go : Hid (w5.heap[w3.heap.size]? = some (.cells #[.int .u32 (M.s : Int), .int .u32 (M.d : Int), .int .u16 (M.p : Int), .int .u16 (M.q : Int), .int .u8 (M.r : Int)] 34)) := blk_on Ho.out hb5
  have Gp : Hid (w5.heap[w4.heap.size]? = some (.cells #[.int .u32 (M.s : Int), .int .u32 (M.d : Int), .int .u16 (M.p : Int), .int .u16 (M.q : Int), .int .u8 (M.r : Int)] 34)) := blk_on Hp.out hb5
  have hbl5 : Hid (Below w.heap.size w w5) := bel_step hblq.out (bel_a0 _) hb5
  clear HA HB Hm Hn Ho Hp lA nA lB nB lm nm ln nn lo no lp np hb5 hblq
  have HA := GA
  clear GA
  have HB := GB
  clear GB
  have Hm := Gm
  clear Gm
  have Hn := Gn
  clear Gn
  have Ho := Go
  clear Go
  have Hp := Gp
  clear Gp
  have lA := blk_lt HA.out
  have nA : ¬ w.heap.size = w5.heap.size := by omega
  have lB := blk_lt HB.out
  have nB : ¬ w.heap.size + 1 = w5.heap.size := by omega
  have lm := blk_lt Hm.out
  have nm : ¬ w1.heap.size = w5.heap.size := by omega
  have ln := blk_lt Hn.out
  have nn : ¬ w2.heap.size = w5.heap.size := by omega
  have lo := blk_lt Ho.out
  have no : ¬ w3.heap.size = w5.heap.size := by omega
  have lp := blk_lt Hp.out
  have np : ¬ w4.heap.size = w5.heap.size := by omega
  obtain ⟨m_0, m_1, m_2, m_3, m_4⟩ := blk5 Hm.out
  obtain ⟨n_0, n_1, n_2, n_3, n_4⟩ := blk5 Hn.out
  obtain ⟨o_0, o_1, o_2, o_3, o_4⟩ := blk5 Ho.out
  obtain ⟨p_0, p_1, p_2, p_3, p_4⟩ := blk5 Hp.out
  go_wp2_with (fail)
  go_ret
  exact ⟨ret_same (by simp), hbl5.out⟩

set_option maxRecDepth 100000 in
theorem rulePairs_lifted (os : Os) (started : os.Started) (H : Type) (enc : TypeId × Value → H) :
    ReturnsInHanded {} Tryz.checked os 4 .any (Rows.rulePairsSpec.pre6 enc Tryz.prog Tryz.f4 Rows.rulePairsRow.domain false) (Rows.rulePairsSpec.post enc Tryz.prog Tryz.f4 false true false false) := by
  refine returnsInHanded_of_change (C := Tryz.checked) own started (by kernel_rfl) Tryz.func4
    (ChangeSpec.witness6 (enc := enc) (C := Tryz.checked) false ⟨#[], #[.agg #[.int .i64 0, .int .u32 0, .int .i64 0, .int .u32 0, .int .i64 0, .int .u16 0, .int .u16 0, .int .u16 0, .int .u16 0, .int .u8 0, .int .u8 0, .int .i64 0], .agg #[.int .i64 0, .int .u32 0, .int .i64 0, .int .u32 0, .int .i64 0, .int .u16 0, .int .u16 0, .int .u16 0, .int .u16 0, .int .u8 0, .int .u8 0, .int .i64 0]], []⟩ 8 (by kernel_rfl) (by kernel_rfl) (by kernel_rfl) (by kernel_rfl)) ?_
  intro W base args ds gs before hval0 hW hcnd _
  have hval : ∀ (j : Nat) t v, Tryz.f4.params[j]? = some t → args[j]? = some v → Value.okWide Tryz.prog W .any base t v := hval0
  have hW' := hW
  obtain ⟨p, q, hA0, hV, rfl, hfz, hnd⟩ := hW
  have hA : DataW.TrodAll enc Tryz.prog W 0 (fun _ => true) true Tryz.f4.params.toList args.toList ds p := hA0
  rw [Tryz.params4] at hA hval
  obtain ⟨v0, vs0, d0, ds0, p0, q0, hargs, rfl, rfl, h0, r0⟩ := trodAll_cons hA
  obtain ⟨v1, vs1, d1, ds1, p1, q1, rfl, rfl, rfl, h1, r1⟩ := trodAll_cons r0
  obtain ⟨rfl, rfl, rfl⟩ := trodAll_nil r1
  obtain rfl : args = #[v0, v1] := by cases args; simp_all
  obtain ⟨rfl, rfl⟩ := trodVars_none hV
  obtain ⟨g0, rfl, rfl, rfl, o0⟩ := open_ru (hval 0 32 v0 rfl rfl) h0
  obtain ⟨g1, rfl, rfl, rfl, o1⟩ := open_ru (hval 1 32 v1 rfl rfl) h1
  clear hA0 hval0
  simp only [List.append_nil] at hW'
  refine (rulePairs_walk g0 o0 g1 o1 W ).mono fun e W' ⟨he, bel⟩ => ?_
  subst he
  exact ⟨_, rfl, _, _, _, [], _, [], hW', trodAll_mk1 (shut_bool Tryz.underlying4 _), (trodAll_cons_mk (shut_ru o0) (trodAll_cons_mk (shut_ru o1) trodAll_mk0)), rfl, bel.frame _, fun h => by cases h⟩

/-- The given statement. -/
theorem rulePairs_holds : Rows.RulePairsSaid :=
  OpenClaim.holds_of_wide 4 Tryz.f4 rfl rfl rfl rfl rfl rfl rfl ⟨rfl, rfl, rfl, rfl, rfl⟩ rfl rfl rfl rfl rfl (by kernel_rfl) Tryz.func4 (by kernel_rfl)
    (of_decide_eq_true (by kernel_rfl)) (by unfold Func.isWrapper; first | (rw [if_pos (by decide +kernel)]; kernel_rfl) | (rw [if_neg (by decide +kernel)]; exact ⟨rfl, rfl⟩))
    (fun os started H enc _ => rulePairs_lifted os started H enc)
#print axioms rulePairs_holds
end Go.Proofs.YtebljklpkoheaaaGreat
