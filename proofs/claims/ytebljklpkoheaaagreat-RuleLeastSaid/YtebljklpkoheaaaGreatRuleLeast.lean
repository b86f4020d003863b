/-
  For any two rules and a header: what Meets tells both match, each header that both match stands at it or behind it, and a rule meets itself in its box's first header (P8.6); and the examples of the document hold.
  Conditions: none; the law holds for every input.
-/
import Derived.Test.YtebljklpkoheaaaGreatRuAw
import Derived.Test.YtebljklpkoheaaaGreatHdPe2
import Derived.Test.YtebljklpkoheaaaGreatRuFrame
namespace Go.Proofs.YtebljklpkoheaaaGreat
open Go.ChangeShapes Go.WideShapes Go.ChangeAt Go.RowKit Go.Joins
set_option linter.unusedVariables false
set_option linter.unusedSimpArgs false

theorem val_le {a b : Hd} (h1 : a.s ≤ b.s) (h2 : a.d ≤ b.d) (h3 : a.p ≤ b.p) (h4 : a.q ≤ b.q) (h5 : a.r ≤ b.r) : ¬ Hf.cmpH ⟨a.s, a.d, a.p, a.q, a.r⟩ ⟨b.s, b.d, b.p, b.q, b.r⟩ = 1 := by
  unfold Hf.cmpH Hf.val
  split
  · decide
  · split
    · exfalso; simp only at *; omega
    · decide
set_option maxRecDepth 20000 in
set_option maxHeartbeats 8000000 in
theorem ruleLeast_walk (A : Ru) (bA : BdR A) (B : Ru) (bB : BdR B) (h : Hd) (oh : OkH h) (w : World) :
    Calls Tryz.prog 7 #[.agg #[.int .i64 A.i, .int .u32 (A.s : Int), .int .i64 A.sl, .int .u32 (A.d : Int), .int .i64 A.dl, .int .u16 (A.p.1 : Int), .int .u16 (A.p.2 : Int), .int .u16 (A.q.1 : Int), .int .u16 (A.q.2 : Int), .int .u8 (A.m.1 : Int), .int .u8 (A.m.2 : Int), .int .i64 A.act], .agg #[.int .i64 B.i, .int .u32 (B.s : Int), .int .i64 B.sl, .int .u32 (B.d : Int), .int .i64 B.dl, .int .u16 (B.p.1 : Int), .int .u16 (B.p.2 : Int), .int .u16 (B.q.1 : Int), .int .u16 (B.q.2 : Int), .int .u8 (B.m.1 : Int), .int .u8 (B.m.2 : Int), .int .i64 B.act], .agg #[.int .u32 (h.s : Int), .int .u32 (h.d : Int), .int .u16 (h.p : Int), .int .u16 (h.q : Int), .int .u8 (h.r : Int)]] w fun e w' => e = .returned (.bool true) ∧ Below w.heap.size w w' := by
  have hAB := fun W => meetsC A B W bA bB
  have hBA := fun W => meetsC B A W bB bA
  rw [meetR_comm B A, bothR_comm B A] at hBA
  have hAA := fun W => meetsC A A W bA bA
  rw [(meet_self A).1] at hAA
  have hm1 := fun W => matchC A h W bA oh
  have hm2 := fun W => matchC B h W bB oh
  have hX := fun W => boxC A W bA
  have hz : ∀ W, Sem.run Tryz.prog (binOp .eql 34 (.agg #[.int .u32 0, .int .u32 0, .int .u16 0, .int .u16 0, .int .u8 0]) (.agg #[.int .u32 0, .int .u32 0, .int .u16 0, .int .u16 0, .int .u8 0])) W = .ok (.bool true) W := fun W => by have e := eqH_any ⟨0, 0, 0, 0, 0⟩ ⟨0, 0, 0, 0, 0⟩ W; rw [decide_eq_true (rfl : (⟨0, 0, 0, 0, 0⟩ : Hd) = ⟨0, 0, 0, 0, 0⟩)] at e; exact e
  cases ha : okR A
  · have hf := bothR_no (A := A) (B := B) (.inl ha)
    have hff := bothR_no (A := A) (B := A) (.inl ha)
    rw [meetH_no hf, hf] at hAB hBA
    rw [meetH_no hff, ha] at hAA
    rw [match_no ha] at hm1
    rw [boxA_no ha] at hX
    have hn := errs_no ha
    have hn' : ((errs A).1 == 0) = false := by simpa using hn
    have hF : ∀ W, Calls Tryz.prog 24 #[.agg #[.int .u32 0, .int .u32 0, .int .u32 0, .int .u32 0, .int .u16 0, .int .u16 0, .int .u16 0, .int .u16 0, .int .u8 0, .int .u8 0]] W fun e w' => e = .returned (.tuple #[.agg #[.int .u32 0, .int .u32 0, .int .u16 0, .int .u16 0, .int .u8 0], .int .i64 0]) ∧ Below W.heap.size W w' := fun W => firstC zeroX W zeroX_bd
    generalize (errs A).1 = c at *
    replace hX : ∀ W, Calls Tryz.prog 11 #[.agg #[.int .i64 A.i, .int .u32 (A.s : Int), .int .i64 A.sl, .int .u32 (A.d : Int), .int .i64 A.dl, .int .u16 (A.p.1 : Int), .int .u16 (A.p.2 : Int), .int .u16 (A.q.1 : Int), .int .u16 (A.q.2 : Int), .int .u8 (A.m.1 : Int), .int .u8 (A.m.2 : Int), .int .i64 A.act]] W fun e w' => e = .returned (.tuple #[.agg #[.int .u32 0, .int .u32 0, .int .u32 0, .int .u32 0, .int .u16 0, .int .u16 0, .int .u16 0, .int .u16 0, .int .u8 0, .int .u8 0], .int .i64 c]) ∧ Below W.heap.size W w' := hX
    replace hAB : ∀ W, Calls Tryz.prog 18 #[.agg #[.int .i64 A.i, .int .u32 (A.s : Int), .int .i64 A.sl, .int .u32 (A.d : Int), .int .i64 A.dl, .int .u16 (A.p.1 : Int), .int .u16 (A.p.2 : Int), .int .u16 (A.q.1 : Int), .int .u16 (A.q.2 : Int), .int .u8 (A.m.1 : Int), .int .u8 (A.m.2 : Int), .int .i64 A.act], .agg #[.int .i64 B.i, .int .u32 (B.s : Int), .int .i64 B.sl, .int .u32 (B.d : Int), .int .i64 B.dl, .int .u16 (B.p.1 : Int), .int .u16 (B.p.2 : Int), .int .u16 (B.q.1 : Int), .int .u16 (B.q.2 : Int), .int .u8 (B.m.1 : Int), .int .u8 (B.m.2 : Int), .int .i64 B.act]] W fun e w' => e = .returned (.tuple #[.agg #[.int .u32 0, .int .u32 0, .int .u16 0, .int .u16 0, .int .u8 0], .bool false]) ∧ Below W.heap.size W w' := hAB
    replace hBA : ∀ W, Calls Tryz.prog 18 #[.agg #[.int .i64 B.i, .int .u32 (B.s : Int), .int .i64 B.sl, .int .u32 (B.d : Int), .int .i64 B.dl, .int .u16 (B.p.1 : Int), .int .u16 (B.p.2 : Int), .int .u16 (B.q.1 : Int), .int .u16 (B.q.2 : Int), .int .u8 (B.m.1 : Int), .int .u8 (B.m.2 : Int), .int .i64 B.act], .agg #[.int .i64 A.i, .int .u32 (A.s : Int), .int .i64 A.sl, .int .u32 (A.d : Int), .int .i64 A.dl, .int .u16 (A.p.1 : Int), .int .u16 (A.p.2 : Int), .int .u16 (A.q.1 : Int), .int .u16 (A.q.2 : Int), .int .u8 (A.m.1 : Int), .int .u8 (A.m.2 : Int), .int .i64 A.act]] W fun e w' => e = .returned (.tuple #[.agg #[.int .u32 0, .int .u32 0, .int .u16 0, .int .u16 0, .int .u8 0], .bool false]) ∧ Below W.heap.size W w' := hBA
    replace hAA : ∀ W, Calls Tryz.prog 18 #[.agg #[.int .i64 A.i, .int .u32 (A.s : Int), .int .i64 A.sl, .int .u32 (A.d : Int), .int .i64 A.dl, .int .u16 (A.p.1 : Int), .int .u16 (A.p.2 : Int), .int .u16 (A.q.1 : Int), .int .u16 (A.q.2 : Int), .int .u8 (A.m.1 : Int), .int .u8 (A.m.2 : Int), .int .i64 A.act], .agg #[.int .i64 A.i, .int .u32 (A.s : Int), .int .i64 A.sl, .int .u32 (A.d : Int), .int .i64 A.dl, .int .u16 (A.p.1 : Int), .int .u16 (A.p.2 : Int), .int .u16 (A.q.1 : Int), .int .u16 (A.q.2 : Int), .int .u8 (A.m.1 : Int), .int .u8 (A.m.2 : Int), .int .i64 A.act]] W fun e w' => e = .returned (.tuple #[.agg #[.int .u32 0, .int .u32 0, .int .u16 0, .int .u16 0, .int .u8 0], .bool false]) ∧ Below W.heap.size W w' := hAA
    clear ha hf hff bA bB oh hm2
    go_enter Tryz.func7, Tryz.ntmps7
    go_wp2_with (fail)
    refine (hAB _).mono ?_
    rintro e w1 ⟨rfl, hb1⟩
    have GA : Hid (w1.heap[w.heap.size]? = some (.cells #[.int .i64 A.i, .int .u32 (A.s : Int), .int .i64 A.sl, .int .u32 (A.d : Int), .int .i64 A.dl, .int .u16 (A.p.1 : Int), .int .u16 (A.p.2 : Int), .int .u16 (A.q.1 : Int), .int .u16 (A.q.2 : Int), .int .u8 (A.m.1 : Int), .int .u8 (A.m.2 : Int), .int .i64 A.act] 32)) := blk_on (blk_alloc (blk_alloc (blk_new w (.cells #[.int .i64 A.i, .int .u32 (A.s : Int), .int .i64 A.sl, .int .u32 (A.d : Int), .int .i64 A.dl, .int .u16 (A.p.1 : Int), .int .u16 (A.p.2 : Int), .int .u16 (A.q.1 : Int), .int .u16 (A.q.2 : Int), .int .u8 (A.m.1 : Int), .int .u8 (A.m.2 : Int), .int .i64 A.act] 32)) _) _) hb1
    have GB : Hid (w1.heap[w.heap.size + 1]? = some (.cells #[.int .i64 B.i, .int .u32 (B.s : Int), .int .i64 B.sl, .int .u32 (B.d : Int), .int .i64 B.dl, .int .u16 (B.p.1 : Int), .int .u16 (B.p.2 : Int), .int .u16 (B.q.1 : Int), .int .u16 (B.q.2 : Int), .int .u8 (B.m.1 : Int), .int .u8 (B.m.2 : Int), .int .i64 B.act] 32)) := blk_on (blk_alloc (by simpa using blk_new (w.alloc (.cells #[.int .i64 A.i, .int .u32 (A.s : Int), .int .i64 A.sl, .int .u32 (A.d : Int), .int .i64 A.dl, .int .u16 (A.p.1 : Int), .int .u16 (A.p.2 : Int), .int .u16 (A.q.1 : Int), .int .u16 (A.q.2 : Int), .int .u8 (A.m.1 : Int), .int .u8 (A.m.2 : Int), .int .i64 A.act] 32)) (.cells #[.int .i64 B.i, .int .u32 (B.s : Int), .int .i64 B.sl, .int .u32 (B.d : Int), .int .i64 B.dl, .int .u16 (B.p.1 : Int), .int .u16 (B.p.2 : Int), .int .u16 (B.q.1 : Int), .int .u16 (B.q.2 : Int), .int .u8 (B.m.1 : Int), .int .u8 (B.m.2 : Int), .int .i64 B.act] 32)) _) hb1
    have Gh : Hid (w1.heap[w.heap.size + 1 + 1]? = some (.cells #[.int .u32 (h.s : Int), .int .u32 (h.d : Int), .int .u16 (h.p : Int), .int .u16 (h.q : Int), .int .u8 (h.r : Int)] 34)) := blk_on (by simpa using blk_new ((w.alloc (.cells #[.int .i64 A.i, .int .u32 (A.s : Int), .int .i64 A.sl, .int .u32 (A.d : Int), .int .i64 A.dl, .int .u16 (A.p.1 : Int), .int .u16 (A.p.2 : Int), .int .u16 (A.q.1 : Int), .int .u16 (A.q.2 : Int), .int .u8 (A.m.1 : Int), .int .u8 (A.m.2 : Int), .int .i64 A.act] 32)).alloc (.cells #[.int .i64 B.i, .int .u32 (B.s : Int), .int .i64 B.sl, .int .u32 (B.d : Int), .int .i64 B.dl, .int .u16 (B.p.1 : Int), .int .u16 (B.p.2 : Int), .int .u16 (B.q.1 : Int), .int .u16 (B.q.2 : Int), .int .u8 (B.m.1 : Int), .int .u8 (B.m.2 : Int), .int .i64 B.act] 32)) (.cells #[.int .u32 (h.s : Int), .int .u32 (h.d : Int), .int .u16 (h.p : Int), .int .u16 (h.q : Int), .int .u8 (h.r : Int)] 34)) hb1
    have HO1 : Hid (w.heap.size + 1 + 1 < w1.heap.size) := blk_lt Gh.out
    have hbl1 : Hid (Below w.heap.size w w1) := bel_step (Below.refl _ _) (bel_a3 _ _ _ _) hb1
    clear hb1
    have HA := GA
    clear GA
    have HB := GB
    clear GB
    have Hh := Gh
    clear Gh
    have lA := blk_lt HA.out
    have nA : ¬ w.heap.size = w1.heap.size := by omega
    have lB := blk_lt HB.out
    have nB : ¬ w.heap.size + 1 = w1.heap.size := by omega
    have lh := blk_lt Hh.out
    have nh : ¬ w.heap.size + 1 + 1 = w1.heap.size := by omega
    obtain ⟨A_0, A_1, A_2, A_3, A_4, A_5, A_6, A_7, A_8, A_9, A_10, A_11⟩ := blk12 HA.out
    obtain ⟨h_0, h_1, h_2, h_3, h_4⟩ := blk5 Hh.out
    go_wp2_with (fail)
    refine (hm1 _).mono ?_
    rintro e w2 ⟨rfl, hb2⟩
    have GA : Hid (w2.heap[w.heap.size]? = some (.cells #[.int .i64 A.i, .int .u32 (A.s : Int), .int .i64 A.sl, .int .u32 (A.d : Int), .int .i64 A.dl, .int .u16 (A.p.1 : Int), .int .u16 (A.p.2 : Int), .int .u16 (A.q.1 : Int), .int .u16 (A.q.2 : Int), .int .u8 (A.m.1 : Int), .int .u8 (A.m.2 : Int), .int .i64 A.act] 32)) := blk_on (blk_alloc HA.out _) hb2
    have GB : Hid (w2.heap[w.heap.size + 1]? = some (.cells #[.int .i64 B.i, .int .u32 (B.s : Int), .int .i64 B.sl, .int .u32 (B.d : Int), .int .i64 B.dl, .int .u16 (B.p.1 : Int), .int .u16 (B.p.2 : Int), .int .u16 (B.q.1 : Int), .int .u16 (B.q.2 : Int), .int .u8 (B.m.1 : Int), .int .u8 (B.m.2 : Int), .int .i64 B.act] 32)) := blk_on (blk_alloc HB.out _) hb2
    have Gh : Hid (w2.heap[w.heap.size + 1 + 1]? = some (.cells #[.int .u32 (h.s : Int), .int .u32 (h.d : Int), .int .u16 (h.p : Int), .int .u16 (h.q : Int), .int .u8 (h.r : Int)] 34)) := blk_on (blk_alloc Hh.out _) hb2
    have Gm : Hid (w2.heap[w1.heap.size]? = some (.cells #[.int .u32 0, .int .u32 0, .int .u16 0, .int .u16 0, .int .u8 0] 34)) := blk_on (blk_new w1 (.cells #[.int .u32 0, .int .u32 0, .int .u16 0, .int .u16 0, .int .u8 0] 34)) hb2
    have HO2 : Hid (w1.heap.size < w2.heap.size) := blk_lt Gm.out
    have hbl2 : Hid (Below w.heap.size w w2) := bel_step hbl1.out (bel_a1 _ _) hb2
    clear HA HB Hh A_0 A_1 A_2 A_3 A_4 A_5 A_6 A_7 A_8 A_9 A_10 A_11 h_0 h_1 h_2 h_3 h_4 lA nA lB nB lh nh hb2 hbl1
    have HA := GA
    clear GA
    have HB := GB
    clear GB
    have Hh := Gh
    clear Gh
    have Hm := Gm
    clear Gm
    have lA := blk_lt HA.out
    have nA : ¬ w.heap.size = w2.heap.size := by omega
    have lB := blk_lt HB.out
    have nB : ¬ w.heap.size + 1 = w2.heap.size := by omega
    have lh := blk_lt Hh.out
    have nh : ¬ w.heap.size + 1 + 1 = w2.heap.size := by omega
    have lm := blk_lt Hm.out
    have nm : ¬ w1.heap.size = w2.heap.size := by omega
    obtain ⟨A_0, A_1, A_2, A_3, A_4, A_5, A_6, A_7, A_8, A_9, A_10, A_11⟩ := blk12 HA.out
    obtain ⟨B_0, B_1, B_2, B_3, B_4, B_5, B_6, B_7, B_8, B_9, B_10, B_11⟩ := blk12 HB.out
    go_wp2_with (fail)
    refine (hBA _).mono ?_
    rintro e w3 ⟨rfl, hb3⟩
    have GA : Hid (w3.heap[w.heap.size]? = some (.cells #[.int .i64 A.i, .int .u32 (A.s : Int), .int .i64 A.sl, .int .u32 (A.d : Int), .int .i64 A.dl, .int .u16 (A.p.1 : Int), .int .u16 (A.p.2 : Int), .int .u16 (A.q.1 : Int), .int .u16 (A.q.2 : Int), .int .u8 (A.m.1 : Int), .int .u8 (A.m.2 : Int), .int .i64 A.act] 32)) := blk_on HA.out hb3
    have GB : Hid (w3.heap[w.heap.size + 1]? = some (.cells #[.int .i64 B.i, .int .u32 (B.s : Int), .int .i64 B.sl, .int .u32 (B.d : Int), .int .i64 B.dl, .int .u16 (B.p.1 : Int), .int .u16 (B.p.2 : Int), .int .u16 (B.q.1 : Int), .int .u16 (B.q.2 : Int), .int .u8 (B.m.1 : Int), .int .u8 (B.m.2 : Int), .int .i64 B.act] 32)) := blk_on HB.out hb3
    have Gh : Hid (w3.heap[w.heap.size + 1 + 1]? = some (.cells #[.int .u32 (h.s : Int), .int .u32 (h.d : Int), .int .u16 (h.p : Int), .int .u16 (h.q : Int), .int .u8 (h.r : Int)] 34)) := blk_on Hh.out hb3
    have Gm : Hid (w3.heap[w1.heap.size]? = some (.cells #[.int .u32 0, .int .u32 0, .int .u16 0, .int .u16 0, .int .u8 0] 34)) := blk_on Hm.out hb3
    have hbl3 : Hid (Below w.heap.size w w3) := bel_step hbl2.out (bel_a0 _) hb3
    clear HA HB Hh Hm A_0 A_1 A_2 A_3 A_4 A_5 A_6 A_7 A_8 A_9 A_10 A_11 B_0 B_1 B_2 B_3 B_4 B_5 B_6 B_7 B_8 B_9 B_10 B_11 lA nA lB nB lh nh lm nm hb3 hbl2
    have HA := GA
    clear GA
    have HB := GB
    clear GB
    have Hh := Gh
    clear Gh
    have Hm := Gm
    clear Gm
    have lA := blk_lt HA.out
    have nA : ¬ w.heap.size = w3.heap.size := by omega
    have lB := blk_lt HB.out
    have nB : ¬ w.heap.size + 1 = w3.heap.size := by omega
    have lh := blk_lt Hh.out
    have nh : ¬ w.heap.size + 1 + 1 = w3.heap.size := by omega
    have lm := blk_lt Hm.out
    have nm : ¬ w1.heap.size = w3.heap.size := by omega
    obtain ⟨A_0, A_1, A_2, A_3, A_4, A_5, A_6, A_7, A_8, A_9, A_10, A_11⟩ := blk12 HA.out
    go_wp2_with (fail)
    refine (hAA _).mono ?_
    rintro e w4 ⟨rfl, hb4⟩
    have GA : Hid (w4.heap[w.heap.size]? = some (.cells #[.int .i64 A.i, .int .u32 (A.s : Int), .int .i64 A.sl, .int .u32 (A.d : Int), .int .i64 A.dl, .int .u16 (A.p.1 : Int), .int .u16 (A.p.2 : Int), .int .u16 (A.q.1 : Int), .int .u16 (A.q.2 : Int), .int .u8 (A.m.1 : Int), .int .u8 (A.m.2 : Int), .int .i64 A.act] 32)) := blk_on (blk_alloc HA.out _) hb4
    have GB : Hid (w4.heap[w.heap.size + 1]? = some (.cells #[.int .i64 B.i, .int .u32 (B.s : Int), .int .i64 B.sl, .int .u32 (B.d : Int), .int .i64 B.dl, .int .u16 (B.p.1 : Int), .int .u16 (B.p.2 : Int), .int .u16 (B.q.1 : Int), .int .u16 (B.q.2 : Int), .int .u8 (B.m.1 : Int), .int .u8 (B.m.2 : Int), .int .i64 B.act] 32)) := blk_on (blk_alloc HB.out _) hb4
    have Gh : Hid (w4.heap[w.heap.size + 1 + 1]? = some (.cells #[.int .u32 (h.s : Int), .int .u32 (h.d : Int), .int .u16 (h.p : Int), .int .u16 (h.q : Int), .int .u8 (h.r : Int)] 34)) := blk_on (blk_alloc Hh.out _) hb4
    have Gm : Hid (w4.heap[w1.heap.size]? = some (.cells #[.int .u32 0, .int .u32 0, .int .u16 0, .int .u16 0, .int .u8 0] 34)) := blk_on (blk_alloc Hm.out _) hb4
    have Gn : Hid (w4.heap[w3.heap.size]? = some (.cells #[.int .u32 0, .int .u32 0, .int .u16 0, .int .u16 0, .int .u8 0] 34)) := blk_on (blk_new w3 (.cells #[.int .u32 0, .int .u32 0, .int .u16 0, .int .u16 0, .int .u8 0] 34)) hb4
    have HO4 : Hid (w3.heap.size < w4.heap.size) := blk_lt Gn.out
    have hbl4 : Hid (Below w.heap.size w w4) := bel_step hbl3.out (bel_a1 _ _) hb4
    clear HA HB Hh Hm A_0 A_1 A_2 A_3 A_4 A_5 A_6 A_7 A_8 A_9 A_10 A_11 lA nA lB nB lh nh lm nm hb4 hbl3
    have HA := GA
    clear GA
    have HB := GB
    clear GB
    have Hh := Gh
    clear Gh
    have Hm := Gm
    clear Gm
    have Hn := Gn
    clear Gn
    have lA := blk_lt HA.out
    have nA : ¬ w.heap.size = w4.heap.size := by omega
    have lB := blk_lt HB.out
    have nB : ¬ w.heap.size + 1 = w4.heap.size := by omega
    have lh := blk_lt Hh.out
    have nh : ¬ w.heap.size + 1 + 1 = w4.heap.size := by omega
    have lm := blk_lt Hm.out
    have nm : ¬ w1.heap.size = w4.heap.size := by omega
    have ln := blk_lt Hn.out
    have nn : ¬ w3.heap.size = w4.heap.size := by omega
    obtain ⟨A_0, A_1, A_2, A_3, A_4, A_5, A_6, A_7, A_8, A_9, A_10, A_11⟩ := blk12 HA.out
    go_wp2_with (fail)
    refine (hX _).mono ?_
    rintro e w5 ⟨rfl, hb5⟩
    have GA : Hid (w5.heap[w.heap.size]? = some (.cells #[.int .i64 A.i, .int .u32 (A.s : Int), .int .i64 A.sl, .int .u32 (A.d : Int), .int .i64 A.dl, .int .u16 (A.p.1 : Int), .int .u16 (A.p.2 : Int), .int .u16 (A.q.1 : Int), .int .u16 (A.q.2 : Int), .int .u8 (A.m.1 : Int), .int .u8 (A.m.2 : Int), .int .i64 A.act] 32)) := blk_on (blk_alloc HA.out _) hb5
    have GB : Hid (w5.heap[w.heap.size + 1]? = some (.cells #[.int .i64 B.i, .int .u32 (B.s : Int), .int .i64 B.sl, .int .u32 (B.d : Int), .int .i64 B.dl, .int .u16 (B.p.1 : Int), .int .u16 (B.p.2 : Int), .int .u16 (B.q.1 : Int), .int .u16 (B.q.2 : Int), .int .u8 (B.m.1 : Int), .int .u8 (B.m.2 : Int), .int .i64 B.act] 32)) := blk_on (blk_alloc HB.out _) hb5
    have Gh : Hid (w5.heap[w.heap.size + 1 + 1]? = some (.cells #[.int .u32 (h.s : Int), .int .u32 (h.d : Int), .int .u16 (h.p : Int), .int .u16 (h.q : Int), .int .u8 (h.r : Int)] 34)) := blk_on (blk_alloc Hh.out _) hb5
    have Gm : Hid (w5.heap[w1.heap.size]? = some (.cells #[.int .u32 0, .int .u32 0, .int .u16 0, .int .u16 0, .int .u8 0] 34)) := blk_on (blk_alloc Hm.out _) hb5
    have Gn : Hid (w5.heap[w3.heap.size]? = some (.cells #[.int .u32 0, .int .u32 0, .int .u16 0, .int .u16 0, .int .u8 0] 34)) := blk_on (blk_alloc Hn.out _) hb5
    have Gs : Hid (w5.heap[w4.heap.size]? = some (.cells #[.int .u32 0, .int .u32 0, .int .u16 0, .int .u16 0, .int .u8 0] 34)) := blk_on (blk_new w4 (.cells #[.int .u32 0, .int .u32 0, .int .u16 0, .int .u16 0, .int .u8 0] 34)) hb5
    have HO5 : Hid (w4.heap.size < w5.heap.size) := blk_lt Gs.out
    have hbl5 : Hid (Below w.heap.size w w5) := bel_step hbl4.out (bel_a1 _ _) hb5
    clear HA HB Hh Hm Hn A_0 A_1 A_2 A_3 A_4 A_5 A_6 A_7 A_8 A_9 A_10 A_11 lA nA lB nB lh nh lm nm ln nn hb5 hbl4
    have HA := GA
    clear GA
    have HB := GB
    clear GB
    have Hh := Gh
    clear Gh
    have Hm := Gm
    clear Gm
    have Hn := Gn
    clear Gn
    have Hs := Gs
    clear Gs
    have lA := blk_lt HA.out
    have nA : ¬ w.heap.size = w5.heap.size := by omega
    have lB := blk_lt HB.out
    have nB : ¬ w.heap.size + 1 = w5.heap.size := by omega
    have lh := blk_lt Hh.out
    have nh : ¬ w.heap.size + 1 + 1 = w5.heap.size := by omega
    have lm := blk_lt Hm.out
    have nm : ¬ w1.heap.size = w5.heap.size := by omega
    have ln := blk_lt Hn.out
    have nn : ¬ w3.heap.size = w5.heap.size := by omega
    have ls := blk_lt Hs.out
    have ns : ¬ w4.heap.size = w5.heap.size := by omega
    go_wp2_with (fail)
    refine (hF _).mono ?_
    rintro e w6 ⟨rfl, hb6⟩
    have GA : Hid (w6.heap[w.heap.size]? = some (.cells #[.int .i64 A.i, .int .u32 (A.s : Int), .int .i64 A.sl, .int .u32 (A.d : Int), .int .i64 A.dl, .int .u16 (A.p.1 : Int), .int .u16 (A.p.2 : Int), .int .u16 (A.q.1 : Int), .int .u16 (A.q.2 : Int), .int .u8 (A.m.1 : Int), .int .u8 (A.m.2 : Int), .int .i64 A.act] 32)) := blk_on (blk_alloc HA.out _) hb6
    have GB : Hid (w6.heap[w.heap.size + 1]? = some (.cells #[.int .i64 B.i, .int .u32 (B.s : Int), .int .i64 B.sl, .int .u32 (B.d : Int), .int .i64 B.dl, .int .u16 (B.p.1 : Int), .int .u16 (B.p.2 : Int), .int .u16 (B.q.1 : Int), .int .u16 (B.q.2 : Int), .int .u8 (B.m.1 : Int), .int .u8 (B.m.2 : Int), .int .i64 B.act] 32)) := blk_on (blk_alloc HB.out _) hb6
    have Gh : Hid (w6.heap[w.heap.size + 1 + 1]? = some (.cells #[.int .u32 (h.s : Int), .int .u32 (h.d : Int), .int .u16 (h.p : Int), .int .u16 (h.q : Int), .int .u8 (h.r : Int)] 34)) := blk_on (blk_alloc Hh.out _) hb6
    have Gm : Hid (w6.heap[w1.heap.size]? = some (.cells #[.int .u32 0, .int .u32 0, .int .u16 0, .int .u16 0, .int .u8 0] 34)) := blk_on (blk_alloc Hm.out _) hb6
    have Gn : Hid (w6.heap[w3.heap.size]? = some (.cells #[.int .u32 0, .int .u32 0, .int .u16 0, .int .u16 0, .int .u8 0] 34)) := blk_on (blk_alloc Hn.out _) hb6
    have Gs : Hid (w6.heap[w4.heap.size]? = some (.cells #[.int .u32 0, .int .u32 0, .int .u16 0, .int .u16 0, .int .u8 0] 34)) := blk_on (blk_alloc Hs.out _) hb6
    have Gy : Hid (w6.heap[w5.heap.size]? = some (.cells #[.int .u32 0, .int .u32 0, .int .u32 0, .int .u32 0, .int .u16 0, .int .u16 0, .int .u16 0, .int .u16 0, .int .u8 0, .int .u8 0] 41)) := blk_on (blk_new w5 (.cells #[.int .u32 0, .int .u32 0, .int .u32 0, .int .u32 0, .int .u16 0, .int .u16 0, .int .u16 0, .int .u16 0, .int .u8 0, .int .u8 0] 41)) hb6
    have HO6 : Hid (w5.heap.size < w6.heap.size) := blk_lt Gy.out
    have hbl6 : Hid (Below w.heap.size w w6) := bel_step hbl5.out (bel_a1 _ _) hb6
    clear HA HB Hh Hm Hn Hs lA nA lB nB lh nh lm nm ln nn ls ns hb6 hbl5
    have HA := GA
    clear GA
    have HB := GB
    clear GB
    have Hh := Gh
    clear Gh
    have Hm := Gm
    clear Gm
    have Hn := Gn
    clear Gn
    have Hs := Gs
    clear Gs
    have Hy := Gy
    clear Gy
    have lA := blk_lt HA.out
    have nA : ¬ w.heap.size = w6.heap.size := by omega
    have lB := blk_lt HB.out
    have nB : ¬ w.heap.size + 1 = w6.heap.size := by omega
    have lh := blk_lt Hh.out
    have nh : ¬ w.heap.size + 1 + 1 = w6.heap.size := by omega
    have lm := blk_lt Hm.out
    have nm : ¬ w1.heap.size = w6.heap.size := by omega
    have ln := blk_lt Hn.out
    have nn : ¬ w3.heap.size = w6.heap.size := by omega
    have ls := blk_lt Hs.out
    have ns : ¬ w4.heap.size = w6.heap.size := by omega
    have ly := blk_lt Hy.out
    have ny : ¬ w5.heap.size = w6.heap.size := by omega
    go_wp2_with (fail)
    refine (awakeR _).mono ?_
    rintro e w7 ⟨rfl, hb7⟩
    have GA : Hid (w7.heap[w.heap.size]? = some (.cells #[.int .i64 A.i, .int .u32 (A.s : Int), .int .i64 A.sl, .int .u32 (A.d : Int), .int .i64 A.dl, .int .u16 (A.p.1 : Int), .int .u16 (A.p.2 : Int), .int .u16 (A.q.1 : Int), .int .u16 (A.q.2 : Int), .int .u8 (A.m.1 : Int), .int .u8 (A.m.2 : Int), .int .i64 A.act] 32)) := blk_on (blk_alloc HA.out _) hb7
    have GB : Hid (w7.heap[w.heap.size + 1]? = some (.cells #[.int .i64 B.i, .int .u32 (B.s : Int), .int .i64 B.sl, .int .u32 (B.d : Int), .int .i64 B.dl, .int .u16 (B.p.1 : Int), .int .u16 (B.p.2 : Int), .int .u16 (B.q.1 : Int), .int .u16 (B.q.2 : Int), .int .u8 (B.m.1 : Int), .int .u8 (B.m.2 : Int), .int .i64 B.act] 32)) := blk_on (blk_alloc HB.out _) hb7
    have Gh : Hid (w7.heap[w.heap.size + 1 + 1]? = some (.cells #[.int .u32 (h.s : Int), .int .u32 (h.d : Int), .int .u16 (h.p : Int), .int .u16 (h.q : Int), .int .u8 (h.r : Int)] 34)) := blk_on (blk_alloc Hh.out _) hb7
    have Gm : Hid (w7.heap[w1.heap.size]? = some (.cells #[.int .u32 0, .int .u32 0, .int .u16 0, .int .u16 0, .int .u8 0] 34)) := blk_on (blk_alloc Hm.out _) hb7
    have Gn : Hid (w7.heap[w3.heap.size]? = some (.cells #[.int .u32 0, .int .u32 0, .int .u16 0, .int .u16 0, .int .u8 0] 34)) := blk_on (blk_alloc Hn.out _) hb7
    have Gs : Hid (w7.heap[w4.heap.size]? = some (.cells #[.int .u32 0, .int .u32 0, .int .u16 0, .int .u16 0, .int .u8 0] 34)) := blk_on (blk_alloc Hs.out _) hb7
    have Gy : Hid (w7.heap[w5.heap.size]? = some (.cells #[.int .u32 0, .int .u32 0, .int .u32 0, .int .u32 0, .int .u16 0, .int .u16 0, .int .u16 0, .int .u16 0, .int .u8 0, .int .u8 0] 41)) := blk_on (blk_alloc Hy.out _) hb7
    have Gx : Hid (w7.heap[w6.heap.size]? = some (.cells #[.int .u32 0, .int .u32 0, .int .u16 0, .int .u16 0, .int .u8 0] 34)) := blk_on (blk_new w6 (.cells #[.int .u32 0, .int .u32 0, .int .u16 0, .int .u16 0, .int .u8 0] 34)) hb7
    have HO7 : Hid (w6.heap.size < w7.heap.size) := blk_lt Gx.out
    have hbl7 : Hid (Below w.heap.size w w7) := bel_step hbl6.out (bel_a1 _ _) hb7
    clear HA HB Hh Hm Hn Hs Hy lA nA lB nB lh nh lm nm ln nn ls ns ly ny hb7 hbl6
    have HA := GA
    clear GA
    have HB := GB
    clear GB
    have Hh := Gh
    clear Gh
    have Hm := Gm
    clear Gm
    have Hn := Gn
    clear Gn
    have Hs := Gs
    clear Gs
    have Hy := Gy
    clear Gy
    have Hx := Gx
    clear Gx
    have lA := blk_lt HA.out
    have nA : ¬ w.heap.size = w7.heap.size := by omega
    have lB := blk_lt HB.out
    have nB : ¬ w.heap.size + 1 = w7.heap.size := by omega
    have lh := blk_lt Hh.out
    have nh : ¬ w.heap.size + 1 + 1 = w7.heap.size := by omega
    have lm := blk_lt Hm.out
    have nm : ¬ w1.heap.size = w7.heap.size := by omega
    have ln := blk_lt Hn.out
    have nn : ¬ w3.heap.size = w7.heap.size := by omega
    have ls := blk_lt Hs.out
    have ns : ¬ w4.heap.size = w7.heap.size := by omega
    have ly := blk_lt Hy.out
    have ny : ¬ w5.heap.size = w7.heap.size := by omega
    have lx := blk_lt Hx.out
    have nx : ¬ w6.heap.size = w7.heap.size := by omega
    obtain ⟨n_0, n_1, n_2, n_3, n_4⟩ := blk5 Hn.out
    obtain ⟨m_0, m_1, m_2, m_3, m_4⟩ := blk5 Hm.out
    obtain ⟨s_0, s_1, s_2, s_3, s_4⟩ := blk5 Hs.out
    obtain ⟨x_0, x_1, x_2, x_3, x_4⟩ := blk5 Hx.out
    go_wp2_with (fail)
    go_ret
    exact ⟨rfl, hbl7.out⟩
  · rw [errs_ok ha, boxA_in ha] at hX
    rw [ha, (meet_self A).2 ha] at hAA
    have xA := boxR_bd bA ha
    have hF := fun W => firstC (boxR A) W xA
    rw [chkX_ok.2 (okX_box ha), show firstX (boxR A) = leastX (boxR A) by unfold firstX; rw [if_pos (okX_box ha)]] at hF
    have hl : ∀ W, Sem.run Tryz.prog (binOp .eql 34 (.agg #[.int .u32 ((leastX (boxR A)).s : Int), .int .u32 ((leastX (boxR A)).d : Int), .int .u16 ((leastX (boxR A)).p : Int), .int .u16 ((leastX (boxR A)).q : Int), .int .u8 ((leastX (boxR A)).r : Int)]) (.agg #[.int .u32 ((leastX (boxR A)).s : Int), .int .u32 ((leastX (boxR A)).d : Int), .int .u16 ((leastX (boxR A)).p : Int), .int .u16 ((leastX (boxR A)).q : Int), .int .u8 ((leastX (boxR A)).r : Int)])) W = .ok (.bool true) W := fun W => by have e := eqH_any (leastX (boxR A)) (leastX (boxR A)) W; rw [decide_eq_true rfl] at e; exact e
    cases hf : bothR A B
    · rw [meetH_no hf, hf] at hAB hBA
      have HMM : Hid (matchR A h = true → matchR B h = false) := fun e => by
        show matchR B h = false
        cases e2 : matchR B h
        · rfl
        · have := (least_match e e2).1; rw [hf] at this; cases this
      replace hAB : ∀ W, Calls Tryz.prog 18 #[.agg #[.int .i64 A.i, .int .u32 (A.s : Int), .int .i64 A.sl, .int .u32 (A.d : Int), .int .i64 A.dl, .int .u16 (A.p.1 : Int), .int .u16 (A.p.2 : Int), .int .u16 (A.q.1 : Int), .int .u16 (A.q.2 : Int), .int .u8 (A.m.1 : Int), .int .u8 (A.m.2 : Int), .int .i64 A.act], .agg #[.int .i64 B.i, .int .u32 (B.s : Int), .int .i64 B.sl, .int .u32 (B.d : Int), .int .i64 B.dl, .int .u16 (B.p.1 : Int), .int .u16 (B.p.2 : Int), .int .u16 (B.q.1 : Int), .int .u16 (B.q.2 : Int), .int .u8 (B.m.1 : Int), .int .u8 (B.m.2 : Int), .int .i64 B.act]] W fun e w' => e = .returned (.tuple #[.agg #[.int .u32 0, .int .u32 0, .int .u16 0, .int .u16 0, .int .u8 0], .bool false]) ∧ Below W.heap.size W w' := hAB
      replace hBA : ∀ W, Calls Tryz.prog 18 #[.agg #[.int .i64 B.i, .int .u32 (B.s : Int), .int .i64 B.sl, .int .u32 (B.d : Int), .int .i64 B.dl, .int .u16 (B.p.1 : Int), .int .u16 (B.p.2 : Int), .int .u16 (B.q.1 : Int), .int .u16 (B.q.2 : Int), .int .u8 (B.m.1 : Int), .int .u8 (B.m.2 : Int), .int .i64 B.act], .agg #[.int .i64 A.i, .int .u32 (A.s : Int), .int .i64 A.sl, .int .u32 (A.d : Int), .int .i64 A.dl, .int .u16 (A.p.1 : Int), .int .u16 (A.p.2 : Int), .int .u16 (A.q.1 : Int), .int .u16 (A.q.2 : Int), .int .u8 (A.m.1 : Int), .int .u8 (A.m.2 : Int), .int .i64 A.act]] W fun e w' => e = .returned (.tuple #[.agg #[.int .u32 0, .int .u32 0, .int .u16 0, .int .u16 0, .int .u8 0], .bool false]) ∧ Below W.heap.size W w' := hBA
      generalize leastX (boxR A) = L at *
      generalize boxR A = X at *
      generalize matchR A h = m1 at *
      generalize matchR B h = m2 at *
      clear ha hf bA bB oh xA
      go_enter Tryz.func7, Tryz.ntmps7
      go_wp2_with (fail)
      refine (hAB _).mono ?_
      rintro e w1 ⟨rfl, hb1⟩
      have GA : Hid (w1.heap[w.heap.size]? = some (.cells #[.int .i64 A.i, .int .u32 (A.s : Int), .int .i64 A.sl, .int .u32 (A.d : Int), .int .i64 A.dl, .int .u16 (A.p.1 : Int), .int .u16 (A.p.2 : Int), .int .u16 (A.q.1 : Int), .int .u16 (A.q.2 : Int), .int .u8 (A.m.1 : Int), .int .u8 (A.m.2 : Int), .int .i64 A.act] 32)) := blk_on (blk_alloc (blk_alloc (blk_new w (.cells #[.int .i64 A.i, .int .u32 (A.s : Int), .int .i64 A.sl, .int .u32 (A.d : Int), .int .i64 A.dl, .int .u16 (A.p.1 : Int), .int .u16 (A.p.2 : Int), .int .u16 (A.q.1 : Int), .int .u16 (A.q.2 : Int), .int .u8 (A.m.1 : Int), .int .u8 (A.m.2 : Int), .int .i64 A.act] 32)) _) _) hb1
      have GB : Hid (w1.heap[w.heap.size + 1]? = some (.cells #[.int .i64 B.i, .int .u32 (B.s : Int), .int .i64 B.sl, .int .u32 (B.d : Int), .int .i64 B.dl, .int .u16 (B.p.1 : Int), .int .u16 (B.p.2 : Int), .int .u16 (B.q.1 : Int), .int .u16 (B.q.2 : Int), .int .u8 (B.m.1 : Int), .int .u8 (B.m.2 : Int), .int .i64 B.act] 32)) := blk_on (blk_alloc (by simpa using blk_new (w.alloc (.cells #[.int .i64 A.i, .int .u32 (A.s : Int), .int .i64 A.sl, .int .u32 (A.d : Int), .int .i64 A.dl, .int .u16 (A.p.1 : Int), .int .u16 (A.p.2 : Int), .int .u16 (A.q.1 : Int), .int .u16 (A.q.2 : Int), .int .u8 (A.m.1 : Int), .int .u8 (A.m.2 : Int), .int .i64 A.act] 32)) (.cells #[.int .i64 B.i, .int .u32 (B.s : Int), .int .i64 B.sl, .int .u32 (B.d : Int), .int .i64 B.dl, .int .u16 (B.p.1 : Int), .int .u16 (B.p.2 : Int), .int .u16 (B.q.1 : Int), .int .u16 (B.q.2 : Int), .int .u8 (B.m.1 : Int), .int .u8 (B.m.2 : Int), .int .i64 B.act] 32)) _) hb1
      have Gh : Hid (w1.heap[w.heap.size + 1 + 1]? = some (.cells #[.int .u32 (h.s : Int), .int .u32 (h.d : Int), .int .u16 (h.p : Int), .int .u16 (h.q : Int), .int .u8 (h.r : Int)] 34)) := blk_on (by simpa using blk_new ((w.alloc (.cells #[.int .i64 A.i, .int .u32 (A.s : Int), .int .i64 A.sl, .int .u32 (A.d : Int), .int .i64 A.dl, .int .u16 (A.p.1 : Int), .int .u16 (A.p.2 : Int), .int .u16 (A.q.1 : Int), .int .u16 (A.q.2 : Int), .int .u8 (A.m.1 : Int), .int .u8 (A.m.2 : Int), .int .i64 A.act] 32)).alloc (.cells #[.int .i64 B.i, .int .u32 (B.s : Int), .int .i64 B.sl, .int .u32 (B.d : Int), .int .i64 B.dl, .int .u16 (B.p.1 : Int), .int .u16 (B.p.2 : Int), .int .u16 (B.q.1 : Int), .int .u16 (B.q.2 : Int), .int .u8 (B.m.1 : Int), .int .u8 (B.m.2 : Int), .int .i64 B.act] 32)) (.cells #[.int .u32 (h.s : Int), .int .u32 (h.d : Int), .int .u16 (h.p : Int), .int .u16 (h.q : Int), .int .u8 (h.r : Int)] 34)) hb1
      have HO1 : Hid (w.heap.size + 1 + 1 < w1.heap.size) := blk_lt Gh.out
      have hbl1 : Hid (Below w.heap.size w w1) := bel_step (Below.refl _ _) (bel_a3 _ _ _ _) hb1
      clear hb1
      have HA := GA
      clear GA
      have HB := GB
      clear GB
      have Hh := Gh
      clear Gh
      have lA := blk_lt HA.out
      have nA : ¬ w.heap.size = w1.heap.size := by omega
      have lB := blk_lt HB.out
      have nB : ¬ w.heap.size + 1 = w1.heap.size := by omega
      have lh := blk_lt Hh.out
      have nh : ¬ w.heap.size + 1 + 1 = w1.heap.size := by omega
      obtain ⟨A_0, A_1, A_2, A_3, A_4, A_5, A_6, A_7, A_8, A_9, A_10, A_11⟩ := blk12 HA.out
      obtain ⟨h_0, h_1, h_2, h_3, h_4⟩ := blk5 Hh.out
      go_wp2_with (fail)
      refine (hm1 _).mono ?_
      rintro e w2 ⟨rfl, hb2⟩
      have GA : Hid (w2.heap[w.heap.size]? = some (.cells #[.int .i64 A.i, .int .u32 (A.s : Int), .int .i64 A.sl, .int .u32 (A.d : Int), .int .i64 A.dl, .int .u16 (A.p.1 : Int), .int .u16 (A.p.2 : Int), .int .u16 (A.q.1 : Int), .int .u16 (A.q.2 : Int), .int .u8 (A.m.1 : Int), .int .u8 (A.m.2 : Int), .int .i64 A.act] 32)) := blk_on (blk_alloc HA.out _) hb2
      have GB : Hid (w2.heap[w.heap.size + 1]? = some (.cells #[.int .i64 B.i, .int .u32 (B.s : Int), .int .i64 B.sl, .int .u32 (B.d : Int), .int .i64 B.dl, .int .u16 (B.p.1 : Int), .int .u16 (B.p.2 : Int), .int .u16 (B.q.1 : Int), .int .u16 (B.q.2 : Int), .int .u8 (B.m.1 : Int), .int .u8 (B.m.2 : Int), .int .i64 B.act] 32)) := blk_on (blk_alloc HB.out _) hb2
      have Gh : Hid (w2.heap[w.heap.size + 1 + 1]? = some (.cells #[.int .u32 (h.s : Int), .int .u32 (h.d : Int), .int .u16 (h.p : Int), .int .u16 (h.q : Int), .int .u8 (h.r : Int)] 34)) := blk_on (blk_alloc Hh.out _) hb2
      have Gm : Hid (w2.heap[w1.heap.size]? = some (.cells #[.int .u32 0, .int .u32 0, .int .u16 0, .int .u16 0, .int .u8 0] 34)) := blk_on (blk_new w1 (.cells #[.int .u32 0, .int .u32 0, .int .u16 0, .int .u16 0, .int .u8 0] 34)) hb2
      have HO2 : Hid (w1.heap.size < w2.heap.size) := blk_lt Gm.out
      have hbl2 : Hid (Below w.heap.size w w2) := bel_step hbl1.out (bel_a1 _ _) hb2
      clear HA HB Hh A_0 A_1 A_2 A_3 A_4 A_5 A_6 A_7 A_8 A_9 A_10 A_11 h_0 h_1 h_2 h_3 h_4 lA nA lB nB lh nh hb2 hbl1
      have HA := GA
      clear GA
      have HB := GB
      clear GB
      have Hh := Gh
      clear Gh
      have Hm := Gm
      clear Gm
      have lA := blk_lt HA.out
      have nA : ¬ w.heap.size = w2.heap.size := by omega
      have lB := blk_lt HB.out
      have nB : ¬ w.heap.size + 1 = w2.heap.size := by omega
      have lh := blk_lt Hh.out
      have nh : ¬ w.heap.size + 1 + 1 = w2.heap.size := by omega
      have lm := blk_lt Hm.out
      have nm : ¬ w1.heap.size = w2.heap.size := by omega
      cases m1
      · obtain ⟨A_0, A_1, A_2, A_3, A_4, A_5, A_6, A_7, A_8, A_9, A_10, A_11⟩ := blk12 HA.out
        obtain ⟨B_0, B_1, B_2, B_3, B_4, B_5, B_6, B_7, B_8, B_9, B_10, B_11⟩ := blk12 HB.out
        go_wp2_with (fail)
        refine (hBA _).mono ?_
        rintro e w3 ⟨rfl, hb3⟩
        have GA : Hid (w3.heap[w.heap.size]? = some (.cells #[.int .i64 A.i, .int .u32 (A.s : Int), .int .i64 A.sl, .int .u32 (A.d : Int), .int .i64 A.dl, .int .u16 (A.p.1 : Int), .int .u16 (A.p.2 : Int), .int .u16 (A.q.1 : Int), .int .u16 (A.q.2 : Int), .int .u8 (A.m.1 : Int), .int .u8 (A.m.2 : Int), .int .i64 A.act] 32)) := blk_on HA.out hb3
        have GB : Hid (w3.heap[w.heap.size + 1]? = some (.cells #[.int .i64 B.i, .int .u32 (B.s : Int), .int .i64 B.sl, .int .u32 (B.d : Int), .int .i64 B.dl, .int .u16 (B.p.1 : Int), .int .u16 (B.p.2 : Int), .int .u16 (B.q.1 : Int), .int .u16 (B.q.2 : Int), .int .u8 (B.m.1 : Int), .int .u8 (B.m.2 : Int), .int .i64 B.act] 32)) := blk_on HB.out hb3
        have Gh : Hid (w3.heap[w.heap.size + 1 + 1]? = some (.cells #[.int .u32 (h.s : Int), .int .u32 (h.d : Int), .int .u16 (h.p : Int), .int .u16 (h.q : Int), .int .u8 (h.r : Int)] 34)) := blk_on Hh.out hb3
        have Gm : Hid (w3.heap[w1.heap.size]? = some (.cells #[.int .u32 0, .int .u32 0, .int .u16 0, .int .u16 0, .int .u8 0] 34)) := blk_on Hm.out hb3
        have hbl3 : Hid (Below w.heap.size w w3) := bel_step hbl2.out (bel_a0 _) hb3
        clear HA HB Hh Hm A_0 A_1 A_2 A_3 A_4 A_5 A_6 A_7 A_8 A_9 A_10 A_11 B_0 B_1 B_2 B_3 B_4 B_5 B_6 B_7 B_8 B_9 B_10 B_11 lA nA lB nB lh nh lm nm hb3 hbl2
        have HA := GA
        clear GA
        have HB := GB
        clear GB
        have Hh := Gh
        clear Gh
        have Hm := Gm
        clear Gm
        have lA := blk_lt HA.out
        have nA : ¬ w.heap.size = w3.heap.size := by omega
        have lB := blk_lt HB.out
        have nB : ¬ w.heap.size + 1 = w3.heap.size := by omega
        have lh := blk_lt Hh.out
        have nh : ¬ w.heap.size + 1 + 1 = w3.heap.size := by omega
        have lm := blk_lt Hm.out
        have nm : ¬ w1.heap.size = w3.heap.size := by omega
        obtain ⟨A_0, A_1, A_2, A_3, A_4, A_5, A_6, A_7, A_8, A_9, A_10, A_11⟩ := blk12 HA.out
        go_wp2_with (fail)
        refine (hAA _).mono ?_
        rintro e w4 ⟨rfl, hb4⟩
        have GA : Hid (w4.heap[w.heap.size]? = some (.cells #[.int .i64 A.i, .int .u32 (A.s : Int), .int .i64 A.sl, .int .u32 (A.d : Int), .int .i64 A.dl, .int .u16 (A.p.1 : Int), .int .u16 (A.p.2 : Int), .int .u16 (A.q.1 : Int), .int .u16 (A.q.2 : Int), .int .u8 (A.m.1 : Int), .int .u8 (A.m.2 : Int), .int .i64 A.act] 32)) := blk_on (blk_alloc HA.out _) hb4
        have GB : Hid (w4.heap[w.heap.size + 1]? = some (.cells #[.int .i64 B.i, .int .u32 (B.s : Int), .int .i64 B.sl, .int .u32 (B.d : Int), .int .i64 B.dl, .int .u16 (B.p.1 : Int), .int .u16 (B.p.2 : Int), .int .u16 (B.q.1 : Int), .int .u16 (B.q.2 : Int), .int .u8 (B.m.1 : Int), .int .u8 (B.m.2 : Int), .int .i64 B.act] 32)) := blk_on (blk_alloc HB.out _) hb4
        have Gh : Hid (w4.heap[w.heap.size + 1 + 1]? = some (.cells #[.int .u32 (h.s : Int), .int .u32 (h.d : Int), .int .u16 (h.p : Int), .int .u16 (h.q : Int), .int .u8 (h.r : Int)] 34)) := blk_on (blk_alloc Hh.out _) hb4
        have Gm : Hid (w4.heap[w1.heap.size]? = some (.cells #[.int .u32 0, .int .u32 0, .int .u16 0, .int .u16 0, .int .u8 0] 34)) := blk_on (blk_alloc Hm.out _) hb4
        have Gn : Hid (w4.heap[w3.heap.size]? = some (.cells #[.int .u32 0, .int .u32 0, .int .u16 0, .int .u16 0, .int .u8 0] 34)) := blk_on (blk_new w3 (.cells #[.int .u32 0, .int .u32 0, .int .u16 0, .int .u16 0, .int .u8 0] 34)) hb4
        have HO4 : Hid (w3.heap.size < w4.heap.size) := blk_lt Gn.out
        have hbl4 : Hid (Below w.heap.size w w4) := bel_step hbl3.out (bel_a1 _ _) hb4
        clear HA HB Hh Hm A_0 A_1 A_2 A_3 A_4 A_5 A_6 A_7 A_8 A_9 A_10 A_11 lA nA lB nB lh nh lm nm hb4 hbl3
        have HA := GA
        clear GA
        have HB := GB
        clear GB
        have Hh := Gh
        clear Gh
        have Hm := Gm
        clear Gm
        have Hn := Gn
        clear Gn
        have lA := blk_lt HA.out
        have nA : ¬ w.heap.size = w4.heap.size := by omega
        have lB := blk_lt HB.out
        have nB : ¬ w.heap.size + 1 = w4.heap.size := by omega
        have lh := blk_lt Hh.out
        have nh : ¬ w.heap.size + 1 + 1 = w4.heap.size := by omega
        have lm := blk_lt Hm.out
        have nm : ¬ w1.heap.size = w4.heap.size := by omega
        have ln := blk_lt Hn.out
        have nn : ¬ w3.heap.size = w4.heap.size := by omega
        obtain ⟨A_0, A_1, A_2, A_3, A_4, A_5, A_6, A_7, A_8, A_9, A_10, A_11⟩ := blk12 HA.out
        go_wp2_with (fail)
        refine (hX _).mono ?_
        rintro e w5 ⟨rfl, hb5⟩
        have GA : Hid (w5.heap[w.heap.size]? = some (.cells #[.int .i64 A.i, .int .u32 (A.s : Int), .int .i64 A.sl, .int .u32 (A.d : Int), .int .i64 A.dl, .int .u16 (A.p.1 : Int), .int .u16 (A.p.2 : Int), .int .u16 (A.q.1 : Int), .int .u16 (A.q.2 : Int), .int .u8 (A.m.1 : Int), .int .u8 (A.m.2 : Int), .int .i64 A.act] 32)) := blk_on (blk_alloc HA.out _) hb5
        have GB : Hid (w5.heap[w.heap.size + 1]? = some (.cells #[.int .i64 B.i, .int .u32 (B.s : Int), .int .i64 B.sl, .int .u32 (B.d : Int), .int .i64 B.dl, .int .u16 (B.p.1 : Int), .int .u16 (B.p.2 : Int), .int .u16 (B.q.1 : Int), .int .u16 (B.q.2 : Int), .int .u8 (B.m.1 : Int), .int .u8 (B.m.2 : Int), .int .i64 B.act] 32)) := blk_on (blk_alloc HB.out _) hb5
        have Gh : Hid (w5.heap[w.heap.size + 1 + 1]? = some (.cells #[.int .u32 (h.s : Int), .int .u32 (h.d : Int), .int .u16 (h.p : Int), .int .u16 (h.q : Int), .int .u8 (h.r : Int)] 34)) := blk_on (blk_alloc Hh.out _) hb5
        have Gm : Hid (w5.heap[w1.heap.size]? = some (.cells #[.int .u32 0, .int .u32 0, .int .u16 0, .int .u16 0, .int .u8 0] 34)) := blk_on (blk_alloc Hm.out _) hb5
        have Gn : Hid (w5.heap[w3.heap.size]? = some (.cells #[.int .u32 0, .int .u32 0, .int .u16 0, .int .u16 0, .int .u8 0] 34)) := blk_on (blk_alloc Hn.out _) hb5
        have Gs : Hid (w5.heap[w4.heap.size]? = some (.cells #[.int .u32 (L.s : Int), .int .u32 (L.d : Int), .int .u16 (L.p : Int), .int .u16 (L.q : Int), .int .u8 (L.r : Int)] 34)) := blk_on (blk_new w4 (.cells #[.int .u32 (L.s : Int), .int .u32 (L.d : Int), .int .u16 (L.p : Int), .int .u16 (L.q : Int), .int .u8 (L.r : Int)] 34)) hb5
        have HO5 : Hid (w4.heap.size < w5.heap.size) := blk_lt Gs.out
        have hbl5 : Hid (Below w.heap.size w w5) := bel_step hbl4.out (bel_a1 _ _) hb5
        clear HA HB Hh Hm Hn A_0 A_1 A_2 A_3 A_4 A_5 A_6 A_7 A_8 A_9 A_10 A_11 lA nA lB nB lh nh lm nm ln nn hb5 hbl4
        have HA := GA
        clear GA
        have HB := GB
        clear GB
        have Hh := Gh
        clear Gh
        have Hm := Gm
        clear Gm
        have Hn := Gn
        clear Gn
        have Hs := Gs
        clear Gs
        have lA := blk_lt HA.out
        have nA : ¬ w.heap.size = w5.heap.size := by omega
        have lB := blk_lt HB.out
        have nB : ¬ w.heap.size + 1 = w5.heap.size := by omega
        have lh := blk_lt Hh.out
        have nh : ¬ w.heap.size + 1 + 1 = w5.heap.size := by omega
        have lm := blk_lt Hm.out
        have nm : ¬ w1.heap.size = w5.heap.size := by omega
        have ln := blk_lt Hn.out
        have nn : ¬ w3.heap.size = w5.heap.size := by omega
        have ls := blk_lt Hs.out
        have ns : ¬ w4.heap.size = w5.heap.size := by omega
        go_wp2_with (fail)
        refine (hF _).mono ?_
        rintro e w6 ⟨rfl, hb6⟩
        have GA : Hid (w6.heap[w.heap.size]? = some (.cells #[.int .i64 A.i, .int .u32 (A.s : Int), .int .i64 A.sl, .int .u32 (A.d : Int), .int .i64 A.dl, .int .u16 (A.p.1 : Int), .int .u16 (A.p.2 : Int), .int .u16 (A.q.1 : Int), .int .u16 (A.q.2 : Int), .int .u8 (A.m.1 : Int), .int .u8 (A.m.2 : Int), .int .i64 A.act] 32)) := blk_on (blk_alloc HA.out _) hb6
        have GB : Hid (w6.heap[w.heap.size + 1]? = some (.cells #[.int .i64 B.i, .int .u32 (B.s : Int), .int .i64 B.sl, .int .u32 (B.d : Int), .int .i64 B.dl, .int .u16 (B.p.1 : Int), .int .u16 (B.p.2 : Int), .int .u16 (B.q.1 : Int), .int .u16 (B.q.2 : Int), .int .u8 (B.m.1 : Int), .int .u8 (B.m.2 : Int), .int .i64 B.act] 32)) := blk_on (blk_alloc HB.out _) hb6
        have Gh : Hid (w6.heap[w.heap.size + 1 + 1]? = some (.cells #[.int .u32 (h.s : Int), .int .u32 (h.d : Int), .int .u16 (h.p : Int), .int .u16 (h.q : Int), .int .u8 (h.r : Int)] 34)) := blk_on (blk_alloc Hh.out _) hb6
        have Gm : Hid (w6.heap[w1.heap.size]? = some (.cells #[.int .u32 0, .int .u32 0, .int .u16 0, .int .u16 0, .int .u8 0] 34)) := blk_on (blk_alloc Hm.out _) hb6
        have Gn : Hid (w6.heap[w3.heap.size]? = some (.cells #[.int .u32 0, .int .u32 0, .int .u16 0, .int .u16 0, .int .u8 0] 34)) := blk_on (blk_alloc Hn.out _) hb6
        have Gs : Hid (w6.heap[w4.heap.size]? = some (.cells #[.int .u32 (L.s : Int), .int .u32 (L.d : Int), .int .u16 (L.p : Int), .int .u16 (L.q : Int), .int .u8 (L.r : Int)] 34)) := blk_on (blk_alloc Hs.out _) hb6
        have Gy : Hid (w6.heap[w5.heap.size]? = some (.cells #[.int .u32 (X.a.1 : Int), .int .u32 (X.a.2 : Int), .int .u32 (X.b.1 : Int), .int .u32 (X.b.2 : Int), .int .u16 (X.c.1 : Int), .int .u16 (X.c.2 : Int), .int .u16 (X.d.1 : Int), .int .u16 (X.d.2 : Int), .int .u8 (X.m.1 : Int), .int .u8 (X.m.2 : Int)] 41)) := blk_on (blk_new w5 (.cells #[.int .u32 (X.a.1 : Int), .int .u32 (X.a.2 : Int), .int .u32 (X.b.1 : Int), .int .u32 (X.b.2 : Int), .int .u16 (X.c.1 : Int), .int .u16 (X.c.2 : Int), .int .u16 (X.d.1 : Int), .int .u16 (X.d.2 : Int), .int .u8 (X.m.1 : Int), .int .u8 (X.m.2 : Int)] 41)) hb6
        have HO6 : Hid (w5.heap.size < w6.heap.size) := blk_lt Gy.out
        have hbl6 : Hid (Below w.heap.size w w6) := bel_step hbl5.out (bel_a1 _ _) hb6
        clear HA HB Hh Hm Hn Hs lA nA lB nB lh nh lm nm ln nn ls ns hb6 hbl5
        have HA := GA
        clear GA
        have HB := GB
        clear GB
        have Hh := Gh
        clear Gh
        have Hm := Gm
        clear Gm
        have Hn := Gn
        clear Gn
        have Hs := Gs
        clear Gs
        have Hy := Gy
        clear Gy
        have lA := blk_lt HA.out
        have nA : ¬ w.heap.size = w6.heap.size := by omega
        have lB := blk_lt HB.out
        have nB : ¬ w.heap.size + 1 = w6.heap.size := by omega
        have lh := blk_lt Hh.out
        have nh : ¬ w.heap.size + 1 + 1 = w6.heap.size := by omega
        have lm := blk_lt Hm.out
        have nm : ¬ w1.heap.size = w6.heap.size := by omega
        have ln := blk_lt Hn.out
        have nn : ¬ w3.heap.size = w6.heap.size := by omega
        have ls := blk_lt Hs.out
        have ns : ¬ w4.heap.size = w6.heap.size := by omega
        have ly := blk_lt Hy.out
        have ny : ¬ w5.heap.size = w6.heap.size := by omega
        go_wp2_with (fail)
        refine (awakeR _).mono ?_
        rintro e w7 ⟨rfl, hb7⟩
        have GA : Hid (w7.heap[w.heap.size]? = some (.cells #[.int .i64 A.i, .int .u32 (A.s : Int), .int .i64 A.sl, .int .u32 (A.d : Int), .int .i64 A.dl, .int .u16 (A.p.1 : Int), .int .u16 (A.p.2 : Int), .int .u16 (A.q.1 : Int), .int .u16 (A.q.2 : Int), .int .u8 (A.m.1 : Int), .int .u8 (A.m.2 : Int), .int .i64 A.act] 32)) := blk_on (blk_alloc HA.out _) hb7
        have GB : Hid (w7.heap[w.heap.size + 1]? = some (.cells #[.int .i64 B.i, .int .u32 (B.s : Int), .int .i64 B.sl, .int .u32 (B.d : Int), .int .i64 B.dl, .int .u16 (B.p.1 : Int), .int .u16 (B.p.2 : Int), .int .u16 (B.q.1 : Int), .int .u16 (B.q.2 : Int), .int .u8 (B.m.1 : Int), .int .u8 (B.m.2 : Int), .int .i64 B.act] 32)) := blk_on (blk_alloc HB.out _) hb7
        have Gh : Hid (w7.heap[w.heap.size + 1 + 1]? = some (.cells #[.int .u32 (h.s : Int), .int .u32 (h.d : Int), .int .u16 (h.p : Int), .int .u16 (h.q : Int), .int .u8 (h.r : Int)] 34)) := blk_on (blk_alloc Hh.out _) hb7
        have Gm : Hid (w7.heap[w1.heap.size]? = some (.cells #[.int .u32 0, .int .u32 0, .int .u16 0, .int .u16 0, .int .u8 0] 34)) := blk_on (blk_alloc Hm.out _) hb7
        have Gn : Hid (w7.heap[w3.heap.size]? = some (.cells #[.int .u32 0, .int .u32 0, .int .u16 0, .int .u16 0, .int .u8 0] 34)) := blk_on (blk_alloc Hn.out _) hb7
        have Gs : Hid (w7.heap[w4.heap.size]? = some (.cells #[.int .u32 (L.s : Int), .int .u32 (L.d : Int), .int .u16 (L.p : Int), .int .u16 (L.q : Int), .int .u8 (L.r : Int)] 34)) := blk_on (blk_alloc Hs.out _) hb7
        have Gy : Hid (w7.heap[w5.heap.size]? = some (.cells #[.int .u32 (X.a.1 : Int), .int .u32 (X.a.2 : Int), .int .u32 (X.b.1 : Int), .int .u32 (X.b.2 : Int), .int .u16 (X.c.1 : Int), .int .u16 (X.c.2 : Int), .int .u16 (X.d.1 : Int), .int .u16 (X.d.2 : Int), .int .u8 (X.m.1 : Int), .int .u8 (X.m.2 : Int)] 41)) := blk_on (blk_alloc Hy.out _) hb7
        have Gx : Hid (w7.heap[w6.heap.size]? = some (.cells #[.int .u32 (L.s : Int), .int .u32 (L.d : Int), .int .u16 (L.p : Int), .int .u16 (L.q : Int), .int .u8 (L.r : Int)] 34)) := blk_on (blk_new w6 (.cells #[.int .u32 (L.s : Int), .int .u32 (L.d : Int), .int .u16 (L.p : Int), .int .u16 (L.q : Int), .int .u8 (L.r : Int)] 34)) hb7
        have HO7 : Hid (w6.heap.size < w7.heap.size) := blk_lt Gx.out
        have hbl7 : Hid (Below w.heap.size w w7) := bel_step hbl6.out (bel_a1 _ _) hb7
        clear HA HB Hh Hm Hn Hs Hy lA nA lB nB lh nh lm nm ln nn ls ns ly ny hb7 hbl6
        have HA := GA
        clear GA
        have HB := GB
        clear GB
        have Hh := Gh
        clear Gh
        have Hm := Gm
        clear Gm
        have Hn := Gn
        clear Gn
        have Hs := Gs
        clear Gs
        have Hy := Gy
        clear Gy
        have Hx := Gx
        clear Gx
        have lA := blk_lt HA.out
        have nA : ¬ w.heap.size = w7.heap.size := by omega
        have lB := blk_lt HB.out
        have nB : ¬ w.heap.size + 1 = w7.heap.size := by omega
        have lh := blk_lt Hh.out
        have nh : ¬ w.heap.size + 1 + 1 = w7.heap.size := by omega
        have lm := blk_lt Hm.out
        have nm : ¬ w1.heap.size = w7.heap.size := by omega
        have ln := blk_lt Hn.out
        have nn : ¬ w3.heap.size = w7.heap.size := by omega
        have ls := blk_lt Hs.out
        have ns : ¬ w4.heap.size = w7.heap.size := by omega
        have ly := blk_lt Hy.out
        have ny : ¬ w5.heap.size = w7.heap.size := by omega
        have lx := blk_lt Hx.out
        have nx : ¬ w6.heap.size = w7.heap.size := by omega
        obtain ⟨n_0, n_1, n_2, n_3, n_4⟩ := blk5 Hn.out
        obtain ⟨m_0, m_1, m_2, m_3, m_4⟩ := blk5 Hm.out
        obtain ⟨s_0, s_1, s_2, s_3, s_4⟩ := blk5 Hs.out
        obtain ⟨x_0, x_1, x_2, x_3, x_4⟩ := blk5 Hx.out
        go_wp2_with (fail)
        go_ret
        exact ⟨rfl, hbl7.out⟩
      · have hmm := HMM.out rfl
        rw [hmm] at hm2
        clear hmm
        obtain ⟨B_0, B_1, B_2, B_3, B_4, B_5, B_6, B_7, B_8, B_9, B_10, B_11⟩ := blk12 HB.out
        obtain ⟨h_0, h_1, h_2, h_3, h_4⟩ := blk5 Hh.out
        go_wp2_with (fail)
        refine (hm2 _).mono ?_
        rintro e w3 ⟨rfl, hb3⟩
        have GA : Hid (w3.heap[w.heap.size]? = some (.cells #[.int .i64 A.i, .int .u32 (A.s : Int), .int .i64 A.sl, .int .u32 (A.d : Int), .int .i64 A.dl, .int .u16 (A.p.1 : Int), .int .u16 (A.p.2 : Int), .int .u16 (A.q.1 : Int), .int .u16 (A.q.2 : Int), .int .u8 (A.m.1 : Int), .int .u8 (A.m.2 : Int), .int .i64 A.act] 32)) := blk_on HA.out hb3
        have GB : Hid (w3.heap[w.heap.size + 1]? = some (.cells #[.int .i64 B.i, .int .u32 (B.s : Int), .int .i64 B.sl, .int .u32 (B.d : Int), .int .i64 B.dl, .int .u16 (B.p.1 : Int), .int .u16 (B.p.2 : Int), .int .u16 (B.q.1 : Int), .int .u16 (B.q.2 : Int), .int .u8 (B.m.1 : Int), .int .u8 (B.m.2 : Int), .int .i64 B.act] 32)) := blk_on HB.out hb3
        have Gh : Hid (w3.heap[w.heap.size + 1 + 1]? = some (.cells #[.int .u32 (h.s : Int), .int .u32 (h.d : Int), .int .u16 (h.p : Int), .int .u16 (h.q : Int), .int .u8 (h.r : Int)] 34)) := blk_on Hh.out hb3
        have Gm : Hid (w3.heap[w1.heap.size]? = some (.cells #[.int .u32 0, .int .u32 0, .int .u16 0, .int .u16 0, .int .u8 0] 34)) := blk_on Hm.out hb3
        have hbl3 : Hid (Below w.heap.size w w3) := bel_step hbl2.out (bel_a0 _) hb3
        clear HA HB Hh Hm B_0 B_1 B_2 B_3 B_4 B_5 B_6 B_7 B_8 B_9 B_10 B_11 h_0 h_1 h_2 h_3 h_4 lA nA lB nB lh nh lm nm hb3 hbl2
        have HA := GA
        clear GA
        have HB := GB
        clear GB
        have Hh := Gh
        clear Gh
        have Hm := Gm
        clear Gm
        have lA := blk_lt HA.out
        have nA : ¬ w.heap.size = w3.heap.size := by omega
        have lB := blk_lt HB.out
        have nB : ¬ w.heap.size + 1 = w3.heap.size := by omega
        have lh := blk_lt Hh.out
        have nh : ¬ w.heap.size + 1 + 1 = w3.heap.size := by omega
        have lm := blk_lt Hm.out
        have nm : ¬ w1.heap.size = w3.heap.size := by omega
        obtain ⟨A_0, A_1, A_2, A_3, A_4, A_5, A_6, A_7, A_8, A_9, A_10, A_11⟩ := blk12 HA.out
        obtain ⟨B_0, B_1, B_2, B_3, B_4, B_5, B_6, B_7, B_8, B_9, B_10, B_11⟩ := blk12 HB.out
        go_wp2_with (fail)
        refine (hBA _).mono ?_
        rintro e w4 ⟨rfl, hb4⟩
        have GA : Hid (w4.heap[w.heap.size]? = some (.cells #[.int .i64 A.i, .int .u32 (A.s : Int), .int .i64 A.sl, .int .u32 (A.d : Int), .int .i64 A.dl, .int .u16 (A.p.1 : Int), .int .u16 (A.p.2 : Int), .int .u16 (A.q.1 : Int), .int .u16 (A.q.2 : Int), .int .u8 (A.m.1 : Int), .int .u8 (A.m.2 : Int), .int .i64 A.act] 32)) := blk_on HA.out hb4
        have GB : Hid (w4.heap[w.heap.size + 1]? = some (.cells #[.int .i64 B.i, .int .u32 (B.s : Int), .int .i64 B.sl, .int .u32 (B.d : Int), .int .i64 B.dl, .int .u16 (B.p.1 : Int), .int .u16 (B.p.2 : Int), .int .u16 (B.q.1 : Int), .int .u16 (B.q.2 : Int), .int .u8 (B.m.1 : Int), .int .u8 (B.m.2 : Int), .int .i64 B.act] 32)) := blk_on HB.out hb4
        have Gh : Hid (w4.heap[w.heap.size + 1 + 1]? = some (.cells #[.int .u32 (h.s : Int), .int .u32 (h.d : Int), .int .u16 (h.p : Int), .int .u16 (h.q : Int), .int .u8 (h.r : Int)] 34)) := blk_on Hh.out hb4
        have Gm : Hid (w4.heap[w1.heap.size]? = some (.cells #[.int .u32 0, .int .u32 0, .int .u16 0, .int .u16 0, .int .u8 0] 34)) := blk_on Hm.out hb4
        have hbl4 : Hid (Below w.heap.size w w4) := bel_step hbl3.out (bel_a0 _) hb4
        clear HA HB Hh Hm A_0 A_1 A_2 A_3 A_4 A_5 A_6 A_7 A_8 A_9 A_10 A_11 B_0 B_1 B_2 B_3 B_4 B_5 B_6 B_7 B_8 B_9 B_10 B_11 lA nA lB nB lh nh lm nm hb4 hbl3
        have HA := GA
        clear GA
        have HB := GB
        clear GB
        have Hh := Gh
        clear Gh
        have Hm := Gm
        clear Gm
        have lA := blk_lt HA.out
        have nA : ¬ w.heap.size = w4.heap.size := by omega
        have lB := blk_lt HB.out
        have nB : ¬ w.heap.size + 1 = w4.heap.size := by omega
        have lh := blk_lt Hh.out
        have nh : ¬ w.heap.size + 1 + 1 = w4.heap.size := by omega
        have lm := blk_lt Hm.out
        have nm : ¬ w1.heap.size = w4.heap.size := by omega
        obtain ⟨A_0, A_1, A_2, A_3, A_4, A_5, A_6, A_7, A_8, A_9, A_10, A_11⟩ := blk12 HA.out
        go_wp2_with (fail)
        refine (hAA _).mono ?_
        rintro e w5 ⟨rfl, hb5⟩
        have GA : Hid (w5.heap[w.heap.size]? = some (.cells #[.int .i64 A.i, .int .u32 (A.s : Int), .int .i64 A.sl, .int .u32 (A.d : Int), .int .i64 A.dl, .int .u16 (A.p.1 : Int), .int .u16 (A.p.2 : Int), .int .u16 (A.q.1 : Int), .int .u16 (A.q.2 : Int), .int .u8 (A.m.1 : Int), .int .u8 (A.m.2 : Int), .int .i64 A.act] 32)) := blk_on (blk_alloc HA.out _) hb5
        have GB : Hid (w5.heap[w.heap.size + 1]? = some (.cells #[.int .i64 B.i, .int .u32 (B.s : Int), .int .i64 B.sl, .int .u32 (B.d : Int), .int .i64 B.dl, .int .u16 (B.p.1 : Int), .int .u16 (B.p.2 : Int), .int .u16 (B.q.1 : Int), .int .u16 (B.q.2 : Int), .int .u8 (B.m.1 : Int), .int .u8 (B.m.2 : Int), .int .i64 B.act] 32)) := blk_on (blk_alloc HB.out _) hb5
        have Gh : Hid (w5.heap[w.heap.size + 1 + 1]? = some (.cells #[.int .u32 (h.s : Int), .int .u32 (h.d : Int), .int .u16 (h.p : Int), .int .u16 (h.q : Int), .int .u8 (h.r : Int)] 34)) := blk_on (blk_alloc Hh.out _) hb5
        have Gm : Hid (w5.heap[w1.heap.size]? = some (.cells #[.int .u32 0, .int .u32 0, .int .u16 0, .int .u16 0, .int .u8 0] 34)) := blk_on (blk_alloc Hm.out _) hb5
        have Gn : Hid (w5.heap[w4.heap.size]? = some (.cells #[.int .u32 0, .int .u32 0, .int .u16 0, .int .u16 0, .int .u8 0] 34)) := blk_on (blk_new w4 (.cells #[.int .u32 0, .int .u32 0, .int .u16 0, .int .u16 0, .int .u8 0] 34)) hb5
        have HO5 : Hid (w4.heap.size < w5.heap.size) := blk_lt Gn.out
        have hbl5 : Hid (Below w.heap.size w w5) := bel_step hbl4.out (bel_a1 _ _) hb5
        clear HA HB Hh Hm A_0 A_1 A_2 A_3 A_4 A_5 A_6 A_7 A_8 A_9 A_10 A_11 lA nA lB nB lh nh lm nm hb5 hbl4
        have HA := GA
        clear GA
        have HB := GB
        clear GB
        have Hh := Gh
        clear Gh
        have Hm := Gm
        clear Gm
        have Hn := Gn
        clear Gn
        have lA := blk_lt HA.out
        have nA : ¬ w.heap.size = w5.heap.size := by omega
        have lB := blk_lt HB.out
        have nB : ¬ w.heap.size + 1 = w5.heap.size := by omega
        have lh := blk_lt Hh.out
        have nh : ¬ w.heap.size + 1 + 1 = w5.heap.size := by omega
        have lm := blk_lt Hm.out
        have nm : ¬ w1.heap.size = w5.heap.size := by omega
        have ln := blk_lt Hn.out
        have nn : ¬ w4.heap.size = w5.heap.size := by omega
        obtain ⟨A_0, A_1, A_2, A_3, A_4, A_5, A_6, A_7, A_8, A_9, A_10, A_11⟩ := blk12 HA.out
        go_wp2_with (fail)
        refine (hX _).mono ?_
        rintro e w6 ⟨rfl, hb6⟩
        have GA : Hid (w6.heap[w.heap.size]? = some (.cells #[.int .i64 A.i, .int .u32 (A.s : Int), .int .i64 A.sl, .int .u32 (A.d : Int), .int .i64 A.dl, .int .u16 (A.p.1 : Int), .int .u16 (A.p.2 : Int), .int .u16 (A.q.1 : Int), .int .u16 (A.q.2 : Int), .int .u8 (A.m.1 : Int), .int .u8 (A.m.2 : Int), .int .i64 A.act] 32)) := blk_on (blk_alloc HA.out _) hb6
        have GB : Hid (w6.heap[w.heap.size + 1]? = some (.cells #[.int .i64 B.i, .int .u32 (B.s : Int), .int .i64 B.sl, .int .u32 (B.d : Int), .int .i64 B.dl, .int .u16 (B.p.1 : Int), .int .u16 (B.p.2 : Int), .int .u16 (B.q.1 : Int), .int .u16 (B.q.2 : Int), .int .u8 (B.m.1 : Int), .int .u8 (B.m.2 : Int), .int .i64 B.act] 32)) := blk_on (blk_alloc HB.out _) hb6
        have Gh : Hid (w6.heap[w.heap.size + 1 + 1]? = some (.cells #[.int .u32 (h.s : Int), .int .u32 (h.d : Int), .int .u16 (h.p : Int), .int .u16 (h.q : Int), .int .u8 (h.r : Int)] 34)) := blk_on (blk_alloc Hh.out _) hb6
        have Gm : Hid (w6.heap[w1.heap.size]? = some (.cells #[.int .u32 0, .int .u32 0, .int .u16 0, .int .u16 0, .int .u8 0] 34)) := blk_on (blk_alloc Hm.out _) hb6
        have Gn : Hid (w6.heap[w4.heap.size]? = some (.cells #[.int .u32 0, .int .u32 0, .int .u16 0, .int .u16 0, .int .u8 0] 34)) := blk_on (blk_alloc Hn.out _) hb6
        have Gs : Hid (w6.heap[w5.heap.size]? = some (.cells #[.int .u32 (L.s : Int), .int .u32 (L.d : Int), .int .u16 (L.p : Int), .int .u16 (L.q : Int), .int .u8 (L.r : Int)] 34)) := blk_on (blk_new w5 (.cells #[.int .u32 (L.s : Int), .int .u32 (L.d : Int), .int .u16 (L.p : Int), .int .u16 (L.q : Int), .int .u8 (L.r : Int)] 34)) hb6
        have HO6 : Hid (w5.heap.size < w6.heap.size) := blk_lt Gs.out
        have hbl6 : Hid (Below w.heap.size w w6) := bel_step hbl5.out (bel_a1 _ _) hb6
        clear HA HB Hh Hm Hn A_0 A_1 A_2 A_3 A_4 A_5 A_6 A_7 A_8 A_9 A_10 A_11 lA nA lB nB lh nh lm nm ln nn hb6 hbl5
        have HA := GA
        clear GA
        have HB := GB
        clear GB
        have Hh := Gh
        clear Gh
        have Hm := Gm
        clear Gm
        have Hn := Gn
        clear Gn
        have Hs := Gs
        clear Gs
        have lA := blk_lt HA.out
        have nA : ¬ w.heap.size = w6.heap.size := by omega
        have lB := blk_lt HB.out
        have nB : ¬ w.heap.size + 1 = w6.heap.size := by omega
        have lh := blk_lt Hh.out
        have nh : ¬ w.heap.size + 1 + 1 = w6.heap.size := by omega
        have lm := blk_lt Hm.out
        have nm : ¬ w1.heap.size = w6.heap.size := by omega
        have ln := blk_lt Hn.out
        have nn : ¬ w4.heap.size = w6.heap.size := by omega
        have ls := blk_lt Hs.out
        have ns : ¬ w5.heap.size = w6.heap.size := by omega
        go_wp2_with (fail)
        refine (hF _).mono ?_
        rintro e w7 ⟨rfl, hb7⟩
        have GA : Hid (w7.heap[w.heap.size]? = some (.cells #[.int .i64 A.i, .int .u32 (A.s : Int), .int .i64 A.sl, .int .u32 (A.d : Int), .int .i64 A.dl, .int .u16 (A.p.1 : Int), .int .u16 (A.p.2 : Int), .int .u16 (A.q.1 : Int), .int .u16 (A.q.2 : Int), .int .u8 (A.m.1 : Int), .int .u8 (A.m.2 : Int), .int .i64 A.act] 32)) := blk_on (blk_alloc HA.out _) hb7
        have GB : Hid (w7.heap[w.heap.size + 1]? = some (.cells #[.int .i64 B.i, .int .u32 (B.s : Int), .int .i64 B.sl, .int .u32 (B.d : Int), .int .i64 B.dl, .int .u16 (B.p.1 : Int), .int .u16 (B.p.2 : Int), .int .u16 (B.q.1 : Int), .int .u16 (B.q.2 : Int), .int .u8 (B.m.1 : Int), .int .u8 (B.m.2 : Int), .int .i64 B.act] 32)) := blk_on (blk_alloc HB.out _) hb7
        have Gh : Hid (w7.heap[w.heap.size + 1 + 1]? = some (.cells #[.int .u32 (h.s : Int), .int .u32 (h.d : Int), .int .u16 (h.p : Int), .int .u16 (h.q : Int), .int .u8 (h.r : Int)] 34)) := blk_on (blk_alloc Hh.out _) hb7
        have Gm : Hid (w7.heap[w1.heap.size]? = some (.cells #[.int .u32 0, .int .u32 0, .int .u16 0, .int .u16 0, .int .u8 0] 34)) := blk_on (blk_alloc Hm.out _) hb7
        have Gn : Hid (w7.heap[w4.heap.size]? = some (.cells #[.int .u32 0, .int .u32 0, .int .u16 0, .int .u16 0, .int .u8 0] 34)) := blk_on (blk_alloc Hn.out _) hb7
        have Gs : Hid (w7.heap[w5.heap.size]? = some (.cells #[.int .u32 (L.s : Int), .int .u32 (L.d : Int), .int .u16 (L.p : Int), .int .u16 (L.q : Int), .int .u8 (L.r : Int)] 34)) := blk_on (blk_alloc Hs.out _) hb7
        have Gy : Hid (w7.heap[w6.heap.size]? = some (.cells #[.int .u32 (X.a.1 : Int), .int .u32 (X.a.2 : Int), .int .u32 (X.b.1 : Int), .int .u32 (X.b.2 : Int), .int .u16 (X.c.1 : Int), .int .u16 (X.c.2 : Int), .int .u16 (X.d.1 : Int), .int .u16 (X.d.2 : Int), .int .u8 (X.m.1 : Int), .int .u8 (X.m.2 : Int)] 41)) := blk_on (blk_new w6 (.cells #[.int .u32 (X.a.1 : Int), .int .u32 (X.a.2 : Int), .int .u32 (X.b.1 : Int), .int .u32 (X.b.2 : Int), .int .u16 (X.c.1 : Int), .int .u16 (X.c.2 : Int), .int .u16 (X.d.1 : Int), .int .u16 (X.d.2 : Int), .int .u8 (X.m.1 : Int), .int .u8 (X.m.2 : Int)] 41)) hb7
        have HO7 : Hid (w6.heap.size < w7.heap.size) := blk_lt Gy.out
        have hbl7 : Hid (Below w.heap.size w w7) := bel_step hbl6.out (bel_a1 _ _) hb7
        clear HA HB Hh Hm Hn Hs lA nA lB nB lh nh lm nm ln nn ls ns hb7 hbl6
        have HA := GA
        clear GA
        have HB := GB
        clear GB
        have Hh := Gh
        clear Gh
        have Hm := Gm
        clear Gm
        have Hn := Gn
        clear Gn
        have Hs := Gs
        clear Gs
        have Hy := Gy
        clear Gy
        have lA := blk_lt HA.out
        have nA : ¬ w.heap.size = w7.heap.size := by omega
        have lB := blk_lt HB.out
        have nB : ¬ w.heap.size + 1 = w7.heap.size := by omega
        have lh := blk_lt Hh.out
        have nh : ¬ w.heap.size + 1 + 1 = w7.heap.size := by omega
        have lm := blk_lt Hm.out
        have nm : ¬ w1.heap.size = w7.heap.size := by omega
        have ln := blk_lt Hn.out
        have nn : ¬ w4.heap.size = w7.heap.size := by omega
        have ls := blk_lt Hs.out
        have ns : ¬ w5.heap.size = w7.heap.size := by omega
        have ly := blk_lt Hy.out
        have ny : ¬ w6.heap.size = w7.heap.size := by omega
        go_wp2_with (fail)
        refine (awakeR _).mono ?_
        rintro e w8 ⟨rfl, hb8⟩
        have GA : Hid (w8.heap[w.heap.size]? = some (.cells #[.int .i64 A.i, .int .u32 (A.s : Int), .int .i64 A.sl, .int .u32 (A.d : Int), .int .i64 A.dl, .int .u16 (A.p.1 : Int), .int .u16 (A.p.2 : Int), .int .u16 (A.q.1 : Int), .int .u16 (A.q.2 : Int), .int .u8 (A.m.1 : Int), .int .u8 (A.m.2 : Int), .int .i64 A.act] 32)) := blk_on (blk_alloc HA.out _) hb8
        have GB : Hid (w8.heap[w.heap.size + 1]? = some (.cells #[.int .i64 B.i, .int .u32 (B.s : Int), .int .i64 B.sl, .int .u32 (B.d : Int), .int .i64 B.dl, .int .u16 (B.p.1 : Int), .int .u16 (B.p.2 : Int), .int .u16 (B.q.1 : Int), .int .u16 (B.q.2 : Int), .int .u8 (B.m.1 : Int), .int .u8 (B.m.2 : Int), .int .i64 B.act] 32)) := blk_on (blk_alloc HB.out _) hb8
        have Gh : Hid (w8.heap[w.heap.size + 1 + 1]? = some (.cells #[.int .u32 (h.s : Int), .int .u32 (h.d : Int), .int .u16 (h.p : Int), .int .u16 (h.q : Int), .int .u8 (h.r : Int)] 34)) := blk_on (blk_alloc Hh.out _) hb8
        have Gm : Hid (w8.heap[w1.heap.size]? = some (.cells #[.int .u32 0, .int .u32 0, .int .u16 0, .int .u16 0, .int .u8 0] 34)) := blk_on (blk_alloc Hm.out _) hb8
        have Gn : Hid (w8.heap[w4.heap.size]? = some (.cells #[.int .u32 0, .int .u32 0, .int .u16 0, .int .u16 0, .int .u8 0] 34)) := blk_on (blk_alloc Hn.out _) hb8
        have Gs : Hid (w8.heap[w5.heap.size]? = some (.cells #[.int .u32 (L.s : Int), .int .u32 (L.d : Int), .int .u16 (L.p : Int), .int .u16 (L.q : Int), .int .u8 (L.r : Int)] 34)) := blk_on (blk_alloc Hs.out _) hb8
        have Gy : Hid (w8.heap[w6.heap.size]? = some (.cells #[.int .u32 (X.a.1 : Int), .int .u32 (X.a.2 : Int), .int .u32 (X.b.1 : Int), .int .u32 (X.b.2 : Int), .int .u16 (X.c.1 : Int), .int .u16 (X.c.2 : Int), .int .u16 (X.d.1 : Int), .int .u16 (X.d.2 : Int), .int .u8 (X.m.1 : Int), .int .u8 (X.m.2 : Int)] 41)) := blk_on (blk_alloc Hy.out _) hb8
        have Gx : Hid (w8.heap[w7.heap.size]? = some (.cells #[.int .u32 (L.s : Int), .int .u32 (L.d : Int), .int .u16 (L.p : Int), .int .u16 (L.q : Int), .int .u8 (L.r : Int)] 34)) := blk_on (blk_new w7 (.cells #[.int .u32 (L.s : Int), .int .u32 (L.d : Int), .int .u16 (L.p : Int), .int .u16 (L.q : Int), .int .u8 (L.r : Int)] 34)) hb8
        have HO8 : Hid (w7.heap.size < w8.heap.size) := blk_lt Gx.out
        have hbl8 : Hid (Below w.heap.size w w8) := bel_step hbl7.out (bel_a1 _ _) hb8
        clear HA HB Hh Hm Hn Hs Hy lA nA lB nB lh nh lm nm ln nn ls ns ly ny hb8 hbl7
        have HA := GA
        clear GA
        have HB := GB
        clear GB
        have Hh := Gh
        clear Gh
        have Hm := Gm
        clear Gm
        have Hn := Gn
        clear Gn
        have Hs := Gs
        clear Gs
        have Hy := Gy
        clear Gy
        have Hx := Gx
        clear Gx
        have lA := blk_lt HA.out
        have nA : ¬ w.heap.size = w8.heap.size := by omega
        have lB := blk_lt HB.out
        have nB : ¬ w.heap.size + 1 = w8.heap.size := by omega
        have lh := blk_lt Hh.out
        have nh : ¬ w.heap.size + 1 + 1 = w8.heap.size := by omega
        have lm := blk_lt Hm.out
        have nm : ¬ w1.heap.size = w8.heap.size := by omega
        have ln := blk_lt Hn.out
        have nn : ¬ w4.heap.size = w8.heap.size := by omega
        have ls := blk_lt Hs.out
        have ns : ¬ w5.heap.size = w8.heap.size := by omega
        have ly := blk_lt Hy.out
        have ny : ¬ w6.heap.size = w8.heap.size := by omega
        have lx := blk_lt Hx.out
        have nx : ¬ w7.heap.size = w8.heap.size := by omega
        obtain ⟨n_0, n_1, n_2, n_3, n_4⟩ := blk5 Hn.out
        obtain ⟨m_0, m_1, m_2, m_3, m_4⟩ := blk5 Hm.out
        obtain ⟨s_0, s_1, s_2, s_3, s_4⟩ := blk5 Hs.out
        obtain ⟨x_0, x_1, x_2, x_3, x_4⟩ := blk5 Hx.out
        go_wp2_with (fail)
        go_ret
        exact ⟨rfl, hbl8.out⟩
    · rw [hf] at hAB hBA
      have oM := meetR_ok bA bB
      have hMA := fun W => matchC A (meetR A B) W bA oM
      have hMB := fun W => matchC B (meetR A B) W bB oM
      rw [(meetR_match hf).1] at hMA
      rw [(meetR_match hf).2] at hMB
      have hc : ∀ W, Calls Tryz.prog 27 #[.agg #[.int .u32 ((meetR A B).s : Int), .int .u32 ((meetR A B).d : Int), .int .u16 ((meetR A B).p : Int), .int .u16 ((meetR A B).q : Int), .int .u8 ((meetR A B).r : Int)], .agg #[.int .u32 (h.s : Int), .int .u32 (h.d : Int), .int .u16 (h.p : Int), .int .u16 (h.q : Int), .int .u8 (h.r : Int)]] W fun e w' => e = .returned (.int .i64 (Hf.cmpH ⟨(meetR A B).s, (meetR A B).d, (meetR A B).p, (meetR A B).q, (meetR A B).r⟩ ⟨h.s, h.d, h.p, h.q, h.r⟩)) ∧ Below W.heap.size W w' := fun W => Hf.cmpC ⟨(meetR A B).s, (meetR A B).d, (meetR A B).p, (meetR A B).q, (meetR A B).r⟩ ⟨h.s, h.d, h.p, h.q, h.r⟩ W oM oh
      have HR1 : Hid (matchR A h = true → matchR B h = true → ¬ Hf.cmpH ⟨(meetR A B).s, (meetR A B).d, (meetR A B).p, (meetR A B).q, (meetR A B).r⟩ ⟨h.s, h.d, h.p, h.q, h.r⟩ = 1) := fun e1 e2 => by
        obtain ⟨_, q1, q2, q3, q4, q5⟩ := least_match e1 e2
        exact val_le q1 q2 q3 q4 q5
      generalize Hf.cmpH ⟨(meetR A B).s, (meetR A B).d, (meetR A B).p, (meetR A B).q, (meetR A B).r⟩ ⟨h.s, h.d, h.p, h.q, h.r⟩ = r at *
      have hk : ∀ W, Sem.run Tryz.prog (binOp .eql 34 (.agg #[.int .u32 ((meetR A B).s : Int), .int .u32 ((meetR A B).d : Int), .int .u16 ((meetR A B).p : Int), .int .u16 ((meetR A B).q : Int), .int .u8 ((meetR A B).r : Int)]) (.agg #[.int .u32 ((meetR A B).s : Int), .int .u32 ((meetR A B).d : Int), .int .u16 ((meetR A B).p : Int), .int .u16 ((meetR A B).q : Int), .int .u8 ((meetR A B).r : Int)])) W = .ok (.bool true) W := fun W => by have e := eqH_any (meetR A B) (meetR A B) W; rw [decide_eq_true rfl] at e; exact e
      generalize meetR A B = M at *
      generalize leastX (boxR A) = L at *
      generalize boxR A = X at *
      generalize matchR A h = m1 at *
      generalize matchR B h = m2 at *
      clear ha hf bA bB oh xA oM
      go_enter Tryz.func7, Tryz.ntmps7
      go_wp2_with (fail)
      refine (hAB _).mono ?_
      rintro e w1 ⟨rfl, hb1⟩
      have GA : Hid (w1.heap[w.heap.size]? = some (.cells #[.int .i64 A.i, .int .u32 (A.s : Int), .int .i64 A.sl, .int .u32 (A.d : Int), .int .i64 A.dl, .int .u16 (A.p.1 : Int), .int .u16 (A.p.2 : Int), .int .u16 (A.q.1 : Int), .int .u16 (A.q.2 : Int), .int .u8 (A.m.1 : Int), .int .u8 (A.m.2 : Int), .int .i64 A.act] 32)) := blk_on (blk_alloc (blk_alloc (blk_new w (.cells #[.int .i64 A.i, .int .u32 (A.s : Int), .int .i64 A.sl, .int .u32 (A.d : Int), .int .i64 A.dl, .int .u16 (A.p.1 : Int), .int .u16 (A.p.2 : Int), .int .u16 (A.q.1 : Int), .int .u16 (A.q.2 : Int), .int .u8 (A.m.1 : Int), .int .u8 (A.m.2 : Int), .int .i64 A.act] 32)) _) _) hb1
      have GB : Hid (w1.heap[w.heap.size + 1]? = some (.cells #[.int .i64 B.i, .int .u32 (B.s : Int), .int .i64 B.sl, .int .u32 (B.d : Int), .int .i64 B.dl, .int .u16 (B.p.1 : Int), .int .u16 (B.p.2 : Int), .int .u16 (B.q.1 : Int), .int .u16 (B.q.2 : Int), .int .u8 (B.m.1 : Int), .int .u8 (B.m.2 : Int), .int .i64 B.act] 32)) := blk_on (blk_alloc (by simpa using blk_new (w.alloc (.cells #[.int .i64 A.i, .int .u32 (A.s : Int), .int .i64 A.sl, .int .u32 (A.d : Int), .int .i64 A.dl, .int .u16 (A.p.1 : Int), .int .u16 (A.p.2 : Int), .int .u16 (A.q.1 : Int), .int .u16 (A.q.2 : Int), .int .u8 (A.m.1 : Int), .int .u8 (A.m.2 : Int), .int .i64 A.act] 32)) (.cells #[.int .i64 B.i, .int .u32 (B.s : Int), .int .i64 B.sl, .int .u32 (B.d : Int), .int .i64 B.dl, .int .u16 (B.p.1 : Int), .int .u16 (B.p.2 : Int), .int .u16 (B.q.1 : Int), .int .u16 (B.q.2 : Int), .int .u8 (B.m.1 : Int), .int .u8 (B.m.2 : Int), .int .i64 B.act] 32)) _) hb1
      have Gh : Hid (w1.heap[w.heap.size + 1 + 1]? = some (.cells #[.int .u32 (h.s : Int), .int .u32 (h.d : Int), .int .u16 (h.p : Int), .int .u16 (h.q : Int), .int .u8 (h.r : Int)] 34)) := blk_on (by simpa using blk_new ((w.alloc (.cells #[.int .i64 A.i, .int .u32 (A.s : Int), .int .i64 A.sl, .int .u32 (A.d : Int), .int .i64 A.dl, .int .u16 (A.p.1 : Int), .int .u16 (A.p.2 : Int), .int .u16 (A.q.1 : Int), .int .u16 (A.q.2 : Int), .int .u8 (A.m.1 : Int), .int .u8 (A.m.2 : Int), .int .i64 A.act] 32)).alloc (.cells #[.int .i64 B.i, .int .u32 (B.s : Int), .int .i64 B.sl, .int .u32 (B.d : Int), .int .i64 B.dl, .int .u16 (B.p.1 : Int), .int .u16 (B.p.2 : Int), .int .u16 (B.q.1 : Int), .int .u16 (B.q.2 : Int), .int .u8 (B.m.1 : Int), .int .u8 (B.m.2 : Int), .int .i64 B.act] 32)) (.cells #[.int .u32 (h.s : Int), .int .u32 (h.d : Int), .int .u16 (h.p : Int), .int .u16 (h.q : Int), .int .u8 (h.r : Int)] 34)) hb1
      have HO1 : Hid (w.heap.size + 1 + 1 < w1.heap.size) := blk_lt Gh.out
      have hbl1 : Hid (Below w.heap.size w w1) := bel_step (Below.refl _ _) (bel_a3 _ _ _ _) hb1
      clear hb1
      have HA := GA
      clear GA
      have HB := GB
      clear GB
      have Hh := Gh
      clear Gh
      have lA := blk_lt HA.out
      have nA : ¬ w.heap.size = w1.heap.size := by omega
      have lB := blk_lt HB.out
      have nB : ¬ w.heap.size + 1 = w1.heap.size := by omega
      have lh := blk_lt Hh.out
      have nh : ¬ w.heap.size + 1 + 1 = w1.heap.size := by omega
      obtain ⟨A_0, A_1, A_2, A_3, A_4, A_5, A_6, A_7, A_8, A_9, A_10, A_11⟩ := blk12 HA.out
      obtain ⟨h_0, h_1, h_2, h_3, h_4⟩ := blk5 Hh.out
      go_wp2_with (fail)
      refine (hm1 _).mono ?_
      rintro e w2 ⟨rfl, hb2⟩
      have GA : Hid (w2.heap[w.heap.size]? = some (.cells #[.int .i64 A.i, .int .u32 (A.s : Int), .int .i64 A.sl, .int .u32 (A.d : Int), .int .i64 A.dl, .int .u16 (A.p.1 : Int), .int .u16 (A.p.2 : Int), .int .u16 (A.q.1 : Int), .int .u16 (A.q.2 : Int), .int .u8 (A.m.1 : Int), .int .u8 (A.m.2 : Int), .int .i64 A.act] 32)) := blk_on (blk_alloc HA.out _) hb2
      have GB : Hid (w2.heap[w.heap.size + 1]? = some (.cells #[.int .i64 B.i, .int .u32 (B.s : Int), .int .i64 B.sl, .int .u32 (B.d : Int), .int .i64 B.dl, .int .u16 (B.p.1 : Int), .int .u16 (B.p.2 : Int), .int .u16 (B.q.1 : Int), .int .u16 (B.q.2 : Int), .int .u8 (B.m.1 : Int), .int .u8 (B.m.2 : Int), .int .i64 B.act] 32)) := blk_on (blk_alloc HB.out _) hb2
      have Gh : Hid (w2.heap[w.heap.size + 1 + 1]? = some (.cells #[.int .u32 (h.s : Int), .int .u32 (h.d : Int), .int .u16 (h.p : Int), .int .u16 (h.q : Int), .int .u8 (h.r : Int)] 34)) := blk_on (blk_alloc Hh.out _) hb2
      have Gm : Hid (w2.heap[w1.heap.size]? = some (.cells #[.int .u32 (M.s : Int), .int .u32 (M.d : Int), .int .u16 (M.p : Int), .int .u16 (M.q : Int), .int .u8 (M.r : Int)] 34)) := blk_on (blk_new w1 (.cells #[.int .u32 (M.s : Int), .int .u32 (M.d : Int), .int .u16 (M.p : Int), .int .u16 (M.q : Int), .int .u8 (M.r : Int)] 34)) hb2
      have HO2 : Hid (w1.heap.size < w2.heap.size) := blk_lt Gm.out
      have hbl2 : Hid (Below w.heap.size w w2) := bel_step hbl1.out (bel_a1 _ _) hb2
      clear HA HB Hh A_0 A_1 A_2 A_3 A_4 A_5 A_6 A_7 A_8 A_9 A_10 A_11 h_0 h_1 h_2 h_3 h_4 lA nA lB nB lh nh hb2 hbl1
      have HA := GA
      clear GA
      have HB := GB
      clear GB
      have Hh := Gh
      clear Gh
      have Hm := Gm
      clear Gm
      have lA := blk_lt HA.out
      have nA : ¬ w.heap.size = w2.heap.size := by omega
      have lB := blk_lt HB.out
      have nB : ¬ w.heap.size + 1 = w2.heap.size := by omega
      have lh := blk_lt Hh.out
      have nh : ¬ w.heap.size + 1 + 1 = w2.heap.size := by omega
      have lm := blk_lt Hm.out
      have nm : ¬ w1.heap.size = w2.heap.size := by omega
      cases m1
      · obtain ⟨A_0, A_1, A_2, A_3, A_4, A_5, A_6, A_7, A_8, A_9, A_10, A_11⟩ := blk12 HA.out
        obtain ⟨m_0, m_1, m_2, m_3, m_4⟩ := blk5 Hm.out
        go_wp2_with (fail)
        refine (hMA _).mono ?_
        rintro e w3 ⟨rfl, hb3⟩
        have GA : Hid (w3.heap[w.heap.size]? = some (.cells #[.int .i64 A.i, .int .u32 (A.s : Int), .int .i64 A.sl, .int .u32 (A.d : Int), .int .i64 A.dl, .int .u16 (A.p.1 : Int), .int .u16 (A.p.2 : Int), .int .u16 (A.q.1 : Int), .int .u16 (A.q.2 : Int), .int .u8 (A.m.1 : Int), .int .u8 (A.m.2 : Int), .int .i64 A.act] 32)) := blk_on HA.out hb3
        have GB : Hid (w3.heap[w.heap.size + 1]? = some (.cells #[.int .i64 B.i, .int .u32 (B.s : Int), .int .i64 B.sl, .int .u32 (B.d : Int), .int .i64 B.dl, .int .u16 (B.p.1 : Int), .int .u16 (B.p.2 : Int), .int .u16 (B.q.1 : Int), .int .u16 (B.q.2 : Int), .int .u8 (B.m.1 : Int), .int .u8 (B.m.2 : Int), .int .i64 B.act] 32)) := blk_on HB.out hb3
        have Gh : Hid (w3.heap[w.heap.size + 1 + 1]? = some (.cells #[.int .u32 (h.s : Int), .int .u32 (h.d : Int), .int .u16 (h.p : Int), .int .u16 (h.q : Int), .int .u8 (h.r : Int)] 34)) := blk_on Hh.out hb3
        have Gm : Hid (w3.heap[w1.heap.size]? = some (.cells #[.int .u32 (M.s : Int), .int .u32 (M.d : Int), .int .u16 (M.p : Int), .int .u16 (M.q : Int), .int .u8 (M.r : Int)] 34)) := blk_on Hm.out hb3
        have hbl3 : Hid (Below w.heap.size w w3) := bel_step hbl2.out (bel_a0 _) hb3
        clear HA HB Hh Hm A_0 A_1 A_2 A_3 A_4 A_5 A_6 A_7 A_8 A_9 A_10 A_11 m_0 m_1 m_2 m_3 m_4 lA nA lB nB lh nh lm nm hb3 hbl2
        have HA := GA
        clear GA
        have HB := GB
        clear GB
        have Hh := Gh
        clear Gh
        have Hm := Gm
        clear Gm
        have lA := blk_lt HA.out
        have nA : ¬ w.heap.size = w3.heap.size := by omega
        have lB := blk_lt HB.out
        have nB : ¬ w.heap.size + 1 = w3.heap.size := by omega
        have lh := blk_lt Hh.out
        have nh : ¬ w.heap.size + 1 + 1 = w3.heap.size := by omega
        have lm := blk_lt Hm.out
        have nm : ¬ w1.heap.size = w3.heap.size := by omega
        obtain ⟨B_0, B_1, B_2, B_3, B_4, B_5, B_6, B_7, B_8, B_9, B_10, B_11⟩ := blk12 HB.out
        obtain ⟨m_0, m_1, m_2, m_3, m_4⟩ := blk5 Hm.out
        go_wp2_with (fail)
        refine (hMB _).mono ?_
        rintro e w4 ⟨rfl, hb4⟩
        have GA : Hid (w4.heap[w.heap.size]? = some (.cells #[.int .i64 A.i, .int .u32 (A.s : Int), .int .i64 A.sl, .int .u32 (A.d : Int), .int .i64 A.dl, .int .u16 (A.p.1 : Int), .int .u16 (A.p.2 : Int), .int .u16 (A.q.1 : Int), .int .u16 (A.q.2 : Int), .int .u8 (A.m.1 : Int), .int .u8 (A.m.2 : Int), .int .i64 A.act] 32)) := blk_on HA.out hb4
        have GB : Hid (w4.heap[w.heap.size + 1]? = some (.cells #[.int .i64 B.i, .int .u32 (B.s : Int), .int .i64 B.sl, .int .u32 (B.d : Int), .int .i64 B.dl, .int .u16 (B.p.1 : Int), .int .u16 (B.p.2 : Int), .int .u16 (B.q.1 : Int), .int .u16 (B.q.2 : Int), .int .u8 (B.m.1 : Int), .int .u8 (B.m.2 : Int), .int .i64 B.act] 32)) := blk_on HB.out hb4
        have Gh : Hid (w4.heap[w.heap.size + 1 + 1]? = some (.cells #[.int .u32 (h.s : Int), .int .u32 (h.d : Int), .int .u16 (h.p : Int), .int .u16 (h.q : Int), .int .u8 (h.r : Int)] 34)) := blk_on Hh.out hb4
        have Gm : Hid (w4.heap[w1.heap.size]? = some (.cells #[.int .u32 (M.s : Int), .int .u32 (M.d : Int), .int .u16 (M.p : Int), .int .u16 (M.q : Int), .int .u8 (M.r : Int)] 34)) := blk_on Hm.out hb4
        have hbl4 : Hid (Below w.heap.size w w4) := bel_step hbl3.out (bel_a0 _) hb4
        clear HA HB Hh Hm B_0 B_1 B_2 B_3 B_4 B_5 B_6 B_7 B_8 B_9 B_10 B_11 m_0 m_1 m_2 m_3 m_4 lA nA lB nB lh nh lm nm hb4 hbl3
        have HA := GA
        clear GA
        have HB := GB
        clear GB
        have Hh := Gh
        clear Gh
        have Hm := Gm
        clear Gm
        have lA := blk_lt HA.out
        have nA : ¬ w.heap.size = w4.heap.size := by omega
        have lB := blk_lt HB.out
        have nB : ¬ w.heap.size + 1 = w4.heap.size := by omega
        have lh := blk_lt Hh.out
        have nh : ¬ w.heap.size + 1 + 1 = w4.heap.size := by omega
        have lm := blk_lt Hm.out
        have nm : ¬ w1.heap.size = w4.heap.size := by omega
        obtain ⟨A_0, A_1, A_2, A_3, A_4, A_5, A_6, A_7, A_8, A_9, A_10, A_11⟩ := blk12 HA.out
        obtain ⟨B_0, B_1, B_2, B_3, B_4, B_5, B_6, B_7, B_8, B_9, B_10, B_11⟩ := blk12 HB.out
        go_wp2_with (fail)
        refine (hBA _).mono ?_
        rintro e w5 ⟨rfl, hb5⟩
        have GA : Hid (w5.heap[w.heap.size]? = some (.cells #[.int .i64 A.i, .int .u32 (A.s : Int), .int .i64 A.sl, .int .u32 (A.d : Int), .int .i64 A.dl, .int .u16 (A.p.1 : Int), .int .u16 (A.p.2 : Int), .int .u16 (A.q.1 : Int), .int .u16 (A.q.2 : Int), .int .u8 (A.m.1 : Int), .int .u8 (A.m.2 : Int), .int .i64 A.act] 32)) := blk_on HA.out hb5
        have GB : Hid (w5.heap[w.heap.size + 1]? = some (.cells #[.int .i64 B.i, .int .u32 (B.s : Int), .int .i64 B.sl, .int .u32 (B.d : Int), .int .i64 B.dl, .int .u16 (B.p.1 : Int), .int .u16 (B.p.2 : Int), .int .u16 (B.q.1 : Int), .int .u16 (B.q.2 : Int), .int .u8 (B.m.1 : Int), .int .u8 (B.m.2 : Int), .int .i64 B.act] 32)) := blk_on HB.out hb5
        have Gh : Hid (w5.heap[w.heap.size + 1 + 1]? = some (.cells #[.int .u32 (h.s : Int), .int .u32 (h.d : Int), .int .u16 (h.p : Int), .int .u16 (h.q : Int), .int .u8 (h.r : Int)] 34)) := blk_on Hh.out hb5
        have Gm : Hid (w5.heap[w1.heap.size]? = some (.cells #[.int .u32 (M.s : Int), .int .u32 (M.d : Int), .int .u16 (M.p : Int), .int .u16 (M.q : Int), .int .u8 (M.r : Int)] 34)) := blk_on Hm.out hb5
        have hbl5 : Hid (Below w.heap.size w w5) := bel_step hbl4.out (bel_a0 _) hb5
        clear HA HB Hh Hm A_0 A_1 A_2 A_3 A_4 A_5 A_6 A_7 A_8 A_9 A_10 A_11 B_0 B_1 B_2 B_3 B_4 B_5 B_6 B_7 B_8 B_9 B_10 B_11 lA nA lB nB lh nh lm nm hb5 hbl4
        have HA := GA
        clear GA
        have HB := GB
        clear GB
        have Hh := Gh
        clear Gh
        have Hm := Gm
        clear Gm
        have lA := blk_lt HA.out
        have nA : ¬ w.heap.size = w5.heap.size := by omega
        have lB := blk_lt HB.out
        have nB : ¬ w.heap.size + 1 = w5.heap.size := by omega
        have lh := blk_lt Hh.out
        have nh : ¬ w.heap.size + 1 + 1 = w5.heap.size := by omega
        have lm := blk_lt Hm.out
        have nm : ¬ w1.heap.size = w5.heap.size := by omega
        obtain ⟨A_0, A_1, A_2, A_3, A_4, A_5, A_6, A_7, A_8, A_9, A_10, A_11⟩ := blk12 HA.out
        go_wp2_with (fail)
        refine (hAA _).mono ?_
        rintro e w6 ⟨rfl, hb6⟩
        have GA : Hid (w6.heap[w.heap.size]? = some (.cells #[.int .i64 A.i, .int .u32 (A.s : Int), .int .i64 A.sl, .int .u32 (A.d : Int), .int .i64 A.dl, .int .u16 (A.p.1 : Int), .int .u16 (A.p.2 : Int), .int .u16 (A.q.1 : Int), .int .u16 (A.q.2 : Int), .int .u8 (A.m.1 : Int), .int .u8 (A.m.2 : Int), .int .i64 A.act] 32)) := blk_on (blk_alloc HA.out _) hb6
        have GB : Hid (w6.heap[w.heap.size + 1]? = some (.cells #[.int .i64 B.i, .int .u32 (B.s : Int), .int .i64 B.sl, .int .u32 (B.d : Int), .int .i64 B.dl, .int .u16 (B.p.1 : Int), .int .u16 (B.p.2 : Int), .int .u16 (B.q.1 : Int), .int .u16 (B.q.2 : Int), .int .u8 (B.m.1 : Int), .int .u8 (B.m.2 : Int), .int .i64 B.act] 32)) := blk_on (blk_alloc HB.out _) hb6
        have Gh : Hid (w6.heap[w.heap.size + 1 + 1]? = some (.cells #[.int .u32 (h.s : Int), .int .u32 (h.d : Int), .int .u16 (h.p : Int), .int .u16 (h.q : Int), .int .u8 (h.r : Int)] 34)) := blk_on (blk_alloc Hh.out _) hb6
        have Gm : Hid (w6.heap[w1.heap.size]? = some (.cells #[.int .u32 (M.s : Int), .int .u32 (M.d : Int), .int .u16 (M.p : Int), .int .u16 (M.q : Int), .int .u8 (M.r : Int)] 34)) := blk_on (blk_alloc Hm.out _) hb6
        have Gn : Hid (w6.heap[w5.heap.size]? = some (.cells #[.int .u32 (M.s : Int), .int .u32 (M.d : Int), .int .u16 (M.p : Int), .int .u16 (M.q : Int), .int .u8 (M.r : Int)] 34)) := blk_on (blk_new w5 (.cells #[.int .u32 (M.s : Int), .int .u32 (M.d : Int), .int .u16 (M.p : Int), .int .u16 (M.q : Int), .int .u8 (M.r : Int)] 34)) hb6
        have HO6 : Hid (w5.heap.size < w6.heap.size) := blk_lt Gn.out
        have hbl6 : Hid (Below w.heap.size w w6) := bel_step hbl5.out (bel_a1 _ _) hb6
        clear HA HB Hh Hm A_0 A_1 A_2 A_3 A_4 A_5 A_6 A_7 A_8 A_9 A_10 A_11 lA nA lB nB lh nh lm nm hb6 hbl5
        have HA := GA
        clear GA
        have HB := GB
        clear GB
        have Hh := Gh
        clear Gh
        have Hm := Gm
        clear Gm
        have Hn := Gn
        clear Gn
        have lA := blk_lt HA.out
        have nA : ¬ w.heap.size = w6.heap.size := by omega
        have lB := blk_lt HB.out
        have nB : ¬ w.heap.size + 1 = w6.heap.size := by omega
        have lh := blk_lt Hh.out
        have nh : ¬ w.heap.size + 1 + 1 = w6.heap.size := by omega
        have lm := blk_lt Hm.out
        have nm : ¬ w1.heap.size = w6.heap.size := by omega
        have ln := blk_lt Hn.out
        have nn : ¬ w5.heap.size = w6.heap.size := by omega
        obtain ⟨A_0, A_1, A_2, A_3, A_4, A_5, A_6, A_7, A_8, A_9, A_10, A_11⟩ := blk12 HA.out
        go_wp2_with (fail)
        refine (hX _).mono ?_
        rintro e w7 ⟨rfl, hb7⟩
        have GA : Hid (w7.heap[w.heap.size]? = some (.cells #[.int .i64 A.i, .int .u32 (A.s : Int), .int .i64 A.sl, .int .u32 (A.d : Int), .int .i64 A.dl, .int .u16 (A.p.1 : Int), .int .u16 (A.p.2 : Int), .int .u16 (A.q.1 : Int), .int .u16 (A.q.2 : Int), .int .u8 (A.m.1 : Int), .int .u8 (A.m.2 : Int), .int .i64 A.act] 32)) := blk_on (blk_alloc HA.out _) hb7
        have GB : Hid (w7.heap[w.heap.size + 1]? = some (.cells #[.int .i64 B.i, .int .u32 (B.s : Int), .int .i64 B.sl, .int .u32 (B.d : Int), .int .i64 B.dl, .int .u16 (B.p.1 : Int), .int .u16 (B.p.2 : Int), .int .u16 (B.q.1 : Int), .int .u16 (B.q.2 : Int), .int .u8 (B.m.1 : Int), .int .u8 (B.m.2 : Int), .int .i64 B.act] 32)) := blk_on (blk_alloc HB.out _) hb7
        have Gh : Hid (w7.heap[w.heap.size + 1 + 1]? = some (.cells #[.int .u32 (h.s : Int), .int .u32 (h.d : Int), .int .u16 (h.p : Int), .int .u16 (h.q : Int), .int .u8 (h.r : Int)] 34)) := blk_on (blk_alloc Hh.out _) hb7
        have Gm : Hid (w7.heap[w1.heap.size]? = some (.cells #[.int .u32 (M.s : Int), .int .u32 (M.d : Int), .int .u16 (M.p : Int), .int .u16 (M.q : Int), .int .u8 (M.r : Int)] 34)) := blk_on (blk_alloc Hm.out _) hb7
        have Gn : Hid (w7.heap[w5.heap.size]? = some (.cells #[.int .u32 (M.s : Int), .int .u32 (M.d : Int), .int .u16 (M.p : Int), .int .u16 (M.q : Int), .int .u8 (M.r : Int)] 34)) := blk_on (blk_alloc Hn.out _) hb7
        have Gs : Hid (w7.heap[w6.heap.size]? = some (.cells #[.int .u32 (L.s : Int), .int .u32 (L.d : Int), .int .u16 (L.p : Int), .int .u16 (L.q : Int), .int .u8 (L.r : Int)] 34)) := blk_on (blk_new w6 (.cells #[.int .u32 (L.s : Int), .int .u32 (L.d : Int), .int .u16 (L.p : Int), .int .u16 (L.q : Int), .int .u8 (L.r : Int)] 34)) hb7
        have HO7 : Hid (w6.heap.size < w7.heap.size) := blk_lt Gs.out
        have hbl7 : Hid (Below w.heap.size w w7) := bel_step hbl6.out (bel_a1 _ _) hb7
        clear HA HB Hh Hm Hn A_0 A_1 A_2 A_3 A_4 A_5 A_6 A_7 A_8 A_9 A_10 A_11 lA nA lB nB lh nh lm nm ln nn hb7 hbl6
        have HA := GA
        clear GA
        have HB := GB
        clear GB
        have Hh := Gh
        clear Gh
        have Hm := Gm
        clear Gm
        have Hn := Gn
        clear Gn
        have Hs := Gs
        clear Gs
        have lA := blk_lt HA.out
        have nA : ¬ w.heap.size = w7.heap.size := by omega
        have lB := blk_lt HB.out
        have nB : ¬ w.heap.size + 1 = w7.heap.size := by omega
        have lh := blk_lt Hh.out
        have nh : ¬ w.heap.size + 1 + 1 = w7.heap.size := by omega
        have lm := blk_lt Hm.out
        have nm : ¬ w1.heap.size = w7.heap.size := by omega
        have ln := blk_lt Hn.out
        have nn : ¬ w5.heap.size = w7.heap.size := by omega
        have ls := blk_lt Hs.out
        have ns : ¬ w6.heap.size = w7.heap.size := by omega
        go_wp2_with (fail)
        refine (hF _).mono ?_
        rintro e w8 ⟨rfl, hb8⟩
        have GA : Hid (w8.heap[w.heap.size]? = some (.cells #[.int .i64 A.i, .int .u32 (A.s : Int), .int .i64 A.sl, .int .u32 (A.d : Int), .int .i64 A.dl, .int .u16 (A.p.1 : Int), .int .u16 (A.p.2 : Int), .int .u16 (A.q.1 : Int), .int .u16 (A.q.2 : Int), .int .u8 (A.m.1 : Int), .int .u8 (A.m.2 : Int), .int .i64 A.act] 32)) := blk_on (blk_alloc HA.out _) hb8
        have GB : Hid (w8.heap[w.heap.size + 1]? = some (.cells #[.int .i64 B.i, .int .u32 (B.s : Int), .int .i64 B.sl, .int .u32 (B.d : Int), .int .i64 B.dl, .int .u16 (B.p.1 : Int), .int .u16 (B.p.2 : Int), .int .u16 (B.q.1 : Int), .int .u16 (B.q.2 : Int), .int .u8 (B.m.1 : Int), .int .u8 (B.m.2 : Int), .int .i64 B.act] 32)) := blk_on (blk_alloc HB.out _) hb8
        have Gh : Hid (w8.heap[w.heap.size + 1 + 1]? = some (.cells #[.int .u32 (h.s : Int), .int .u32 (h.d : Int), .int .u16 (h.p : Int), .int .u16 (h.q : Int), .int .u8 (h.r : Int)] 34)) := blk_on (blk_alloc Hh.out _) hb8
        have Gm : Hid (w8.heap[w1.heap.size]? = some (.cells #[.int .u32 (M.s : Int), .int .u32 (M.d : Int), .int .u16 (M.p : Int), .int .u16 (M.q : Int), .int .u8 (M.r : Int)] 34)) := blk_on (blk_alloc Hm.out _) hb8
        have Gn : Hid (w8.heap[w5.heap.size]? = some (.cells #[.int .u32 (M.s : Int), .int .u32 (M.d : Int), .int .u16 (M.p : Int), .int .u16 (M.q : Int), .int .u8 (M.r : Int)] 34)) := blk_on (blk_alloc Hn.out _) hb8
        have Gs : Hid (w8.heap[w6.heap.size]? = some (.cells #[.int .u32 (L.s : Int), .int .u32 (L.d : Int), .int .u16 (L.p : Int), .int .u16 (L.q : Int), .int .u8 (L.r : Int)] 34)) := blk_on (blk_alloc Hs.out _) hb8
        have Gy : Hid (w8.heap[w7.heap.size]? = some (.cells #[.int .u32 (X.a.1 : Int), .int .u32 (X.a.2 : Int), .int .u32 (X.b.1 : Int), .int .u32 (X.b.2 : Int), .int .u16 (X.c.1 : Int), .int .u16 (X.c.2 : Int), .int .u16 (X.d.1 : Int), .int .u16 (X.d.2 : Int), .int .u8 (X.m.1 : Int), .int .u8 (X.m.2 : Int)] 41)) := blk_on (blk_new w7 (.cells #[.int .u32 (X.a.1 : Int), .int .u32 (X.a.2 : Int), .int .u32 (X.b.1 : Int), .int .u32 (X.b.2 : Int), .int .u16 (X.c.1 : Int), .int .u16 (X.c.2 : Int), .int .u16 (X.d.1 : Int), .int .u16 (X.d.2 : Int), .int .u8 (X.m.1 : Int), .int .u8 (X.m.2 : Int)] 41)) hb8
        have HO8 : Hid (w7.heap.size < w8.heap.size) := blk_lt Gy.out
        have hbl8 : Hid (Below w.heap.size w w8) := bel_step hbl7.out (bel_a1 _ _) hb8
        clear HA HB Hh Hm Hn Hs lA nA lB nB lh nh lm nm ln nn ls ns hb8 hbl7
        have HA := GA
        clear GA
        have HB := GB
        clear GB
        have Hh := Gh
        clear Gh
        have Hm := Gm
        clear Gm
        have Hn := Gn
        clear Gn
        have Hs := Gs
        clear Gs
        have Hy := Gy
        clear Gy
        have lA := blk_lt HA.out
        have nA : ¬ w.heap.size = w8.heap.size := by omega
        have lB := blk_lt HB.out
        have nB : ¬ w.heap.size + 1 = w8.heap.size := by omega
        have lh := blk_lt Hh.out
        have nh : ¬ w.heap.size + 1 + 1 = w8.heap.size := by omega
        have lm := blk_lt Hm.out
        have nm : ¬ w1.heap.size = w8.heap.size := by omega
        have ln := blk_lt Hn.out
        have nn : ¬ w5.heap.size = w8.heap.size := by omega
        have ls := blk_lt Hs.out
        have ns : ¬ w6.heap.size = w8.heap.size := by omega
        have ly := blk_lt Hy.out
        have ny : ¬ w7.heap.size = w8.heap.size := by omega
        go_wp2_with (fail)
        refine (awakeR _).mono ?_
        rintro e w9 ⟨rfl, hb9⟩
        have GA : Hid (w9.heap[w.heap.size]? = some (.cells #[.int .i64 A.i, .int .u32 (A.s : Int), .int .i64 A.sl, .int .u32 (A.d : Int), .int .i64 A.dl, .int .u16 (A.p.1 : Int), .int .u16 (A.p.2 : Int), .int .u16 (A.q.1 : Int), .int .u16 (A.q.2 : Int), .int .u8 (A.m.1 : Int), .int .u8 (A.m.2 : Int), .int .i64 A.act] 32)) := blk_on (blk_alloc HA.out _) hb9
        have GB : Hid (w9.heap[w.heap.size + 1]? = some (.cells #[.int .i64 B.i, .int .u32 (B.s : Int), .int .i64 B.sl, .int .u32 (B.d : Int), .int .i64 B.dl, .int .u16 (B.p.1 : Int), .int .u16 (B.p.2 : Int), .int .u16 (B.q.1 : Int), .int .u16 (B.q.2 : Int), .int .u8 (B.m.1 : Int), .int .u8 (B.m.2 : Int), .int .i64 B.act] 32)) := blk_on (blk_alloc HB.out _) hb9
        have Gh : Hid (w9.heap[w.heap.size + 1 + 1]? = some (.cells #[.int .u32 (h.s : Int), .int .u32 (h.d : Int), .int .u16 (h.p : Int), .int .u16 (h.q : Int), .int .u8 (h.r : Int)] 34)) := blk_on (blk_alloc Hh.out _) hb9
        have Gm : Hid (w9.heap[w1.heap.size]? = some (.cells #[.int .u32 (M.s : Int), .int .u32 (M.d : Int), .int .u16 (M.p : Int), .int .u16 (M.q : Int), .int .u8 (M.r : Int)] 34)) := blk_on (blk_alloc Hm.out _) hb9
        have Gn : Hid (w9.heap[w5.heap.size]? = some (.cells #[.int .u32 (M.s : Int), .int .u32 (M.d : Int), .int .u16 (M.p : Int), .int .u16 (M.q : Int), .int .u8 (M.r : Int)] 34)) := blk_on (blk_alloc Hn.out _) hb9
        have Gs : Hid (w9.heap[w6.heap.size]? = some (.cells #[.int .u32 (L.s : Int), .int .u32 (L.d : Int), .int .u16 (L.p : Int), .int .u16 (L.q : Int), .int .u8 (L.r : Int)] 34)) := blk_on (blk_alloc Hs.out _) hb9
        have Gy : Hid (w9.heap[w7.heap.size]? = some (.cells #[.int .u32 (X.a.1 : Int), .int .u32 (X.a.2 : Int), .int .u32 (X.b.1 : Int), .int .u32 (X.b.2 : Int), .int .u16 (X.c.1 : Int), .int .u16 (X.c.2 : Int), .int .u16 (X.d.1 : Int), .int .u16 (X.d.2 : Int), .int .u8 (X.m.1 : Int), .int .u8 (X.m.2 : Int)] 41)) := blk_on (blk_alloc Hy.out _) hb9
        have Gx : Hid (w9.heap[w8.heap.size]? = some (.cells #[.int .u32 (L.s : Int), .int .u32 (L.d : Int), .int .u16 (L.p : Int), .int .u16 (L.q : Int), .int .u8 (L.r : Int)] 34)) := blk_on (blk_new w8 (.cells #[.int .u32 (L.s : Int), .int .u32 (L.d : Int), .int .u16 (L.p : Int), .int .u16 (L.q : Int), .int .u8 (L.r : Int)] 34)) hb9
        have HO9 : Hid (w8.heap.size < w9.heap.size) := blk_lt Gx.out
        have hbl9 : Hid (Below w.heap.size w w9) := bel_step hbl8.out (bel_a1 _ _) hb9
        clear HA HB Hh Hm Hn Hs Hy lA nA lB nB lh nh lm nm ln nn ls ns ly ny hb9 hbl8
        have HA := GA
        clear GA
        have HB := GB
        clear GB
        have Hh := Gh
        clear Gh
        have Hm := Gm
        clear Gm
        have Hn := Gn
        clear Gn
        have Hs := Gs
        clear Gs
        have Hy := Gy
        clear Gy
        have Hx := Gx
        clear Gx
        have lA := blk_lt HA.out
        have nA : ¬ w.heap.size = w9.heap.size := by omega
        have lB := blk_lt HB.out
        have nB : ¬ w.heap.size + 1 = w9.heap.size := by omega
        have lh := blk_lt Hh.out
        have nh : ¬ w.heap.size + 1 + 1 = w9.heap.size := by omega
        have lm := blk_lt Hm.out
        have nm : ¬ w1.heap.size = w9.heap.size := by omega
        have ln := blk_lt Hn.out
        have nn : ¬ w5.heap.size = w9.heap.size := by omega
        have ls := blk_lt Hs.out
        have ns : ¬ w6.heap.size = w9.heap.size := by omega
        have ly := blk_lt Hy.out
        have ny : ¬ w7.heap.size = w9.heap.size := by omega
        have lx := blk_lt Hx.out
        have nx : ¬ w8.heap.size = w9.heap.size := by omega
        obtain ⟨n_0, n_1, n_2, n_3, n_4⟩ := blk5 Hn.out
        obtain ⟨m_0, m_1, m_2, m_3, m_4⟩ := blk5 Hm.out
        obtain ⟨s_0, s_1, s_2, s_3, s_4⟩ := blk5 Hs.out
        obtain ⟨x_0, x_1, x_2, x_3, x_4⟩ := blk5 Hx.out
        go_wp2_with (fail)
        go_ret
        exact ⟨rfl, hbl9.out⟩
      · obtain ⟨B_0, B_1, B_2, B_3, B_4, B_5, B_6, B_7, B_8, B_9, B_10, B_11⟩ := blk12 HB.out
        obtain ⟨h_0, h_1, h_2, h_3, h_4⟩ := blk5 Hh.out
        go_wp2_with (fail)
        refine (hm2 _).mono ?_
        rintro e w3 ⟨rfl, hb3⟩
        have GA : Hid (w3.heap[w.heap.size]? = some (.cells #[.int .i64 A.i, .int .u32 (A.s : Int), .int .i64 A.sl, .int .u32 (A.d : Int), .int .i64 A.dl, .int .u16 (A.p.1 : Int), .int .u16 (A.p.2 : Int), .int .u16 (A.q.1 : Int), .int .u16 (A.q.2 : Int), .int .u8 (A.m.1 : Int), .int .u8 (A.m.2 : Int), .int .i64 A.act] 32)) := blk_on HA.out hb3
        have GB : Hid (w3.heap[w.heap.size + 1]? = some (.cells #[.int .i64 B.i, .int .u32 (B.s : Int), .int .i64 B.sl, .int .u32 (B.d : Int), .int .i64 B.dl, .int .u16 (B.p.1 : Int), .int .u16 (B.p.2 : Int), .int .u16 (B.q.1 : Int), .int .u16 (B.q.2 : Int), .int .u8 (B.m.1 : Int), .int .u8 (B.m.2 : Int), .int .i64 B.act] 32)) := blk_on HB.out hb3
        have Gh : Hid (w3.heap[w.heap.size + 1 + 1]? = some (.cells #[.int .u32 (h.s : Int), .int .u32 (h.d : Int), .int .u16 (h.p : Int), .int .u16 (h.q : Int), .int .u8 (h.r : Int)] 34)) := blk_on Hh.out hb3
        have Gm : Hid (w3.heap[w1.heap.size]? = some (.cells #[.int .u32 (M.s : Int), .int .u32 (M.d : Int), .int .u16 (M.p : Int), .int .u16 (M.q : Int), .int .u8 (M.r : Int)] 34)) := blk_on Hm.out hb3
        have hbl3 : Hid (Below w.heap.size w w3) := bel_step hbl2.out (bel_a0 _) hb3
        clear HA HB Hh Hm B_0 B_1 B_2 B_3 B_4 B_5 B_6 B_7 B_8 B_9 B_10 B_11 h_0 h_1 h_2 h_3 h_4 lA nA lB nB lh nh lm nm hb3 hbl2
        have HA := GA
        clear GA
        have HB := GB
        clear GB
        have Hh := Gh
        clear Gh
        have Hm := Gm
        clear Gm
        have lA := blk_lt HA.out
        have nA : ¬ w.heap.size = w3.heap.size := by omega
        have lB := blk_lt HB.out
        have nB : ¬ w.heap.size + 1 = w3.heap.size := by omega
        have lh := blk_lt Hh.out
        have nh : ¬ w.heap.size + 1 + 1 = w3.heap.size := by omega
        have lm := blk_lt Hm.out
        have nm : ¬ w1.heap.size = w3.heap.size := by omega
        cases m2
        · obtain ⟨A_0, A_1, A_2, A_3, A_4, A_5, A_6, A_7, A_8, A_9, A_10, A_11⟩ := blk12 HA.out
          obtain ⟨m_0, m_1, m_2, m_3, m_4⟩ := blk5 Hm.out
          go_wp2_with (fail)
          refine (hMA _).mono ?_
          rintro e w4 ⟨rfl, hb4⟩
          have GA : Hid (w4.heap[w.heap.size]? = some (.cells #[.int .i64 A.i, .int .u32 (A.s : Int), .int .i64 A.sl, .int .u32 (A.d : Int), .int .i64 A.dl, .int .u16 (A.p.1 : Int), .int .u16 (A.p.2 : Int), .int .u16 (A.q.1 : Int), .int .u16 (A.q.2 : Int), .int .u8 (A.m.1 : Int), .int .u8 (A.m.2 : Int), .int .i64 A.act] 32)) := blk_on HA.out hb4
          have GB : Hid (w4.heap[w.heap.size + 1]? = some (.cells #[.int .i64 B.i, .int .u32 (B.s : Int), .int .i64 B.sl, .int .u32 (B.d : Int), .int .i64 B.dl, .int .u16 (B.p.1 : Int), .int .u16 (B.p.2 : Int), .int .u16 (B.q.1 : Int), .int .u16 (B.q.2 : Int), .int .u8 (B.m.1 : Int), .int .u8 (B.m.2 : Int), .int .i64 B.act] 32)) := blk_on HB.out hb4
          have Gh : Hid (w4.heap[w.heap.size + 1 + 1]? = some (.cells #[.int .u32 (h.s : Int), .int .u32 (h.d : Int), .int .u16 (h.p : Int), .int .u16 (h.q : Int), .int .u8 (h.r : Int)] 34)) := blk_on Hh.out hb4
          have Gm : Hid (w4.heap[w1.heap.size]? = some (.cells #[.int .u32 (M.s : Int), .int .u32 (M.d : Int), .int .u16 (M.p : Int), .int .u16 (M.q : Int), .int .u8 (M.r : Int)] 34)) := blk_on Hm.out hb4
          have hbl4 : Hid (Below w.heap.size w w4) := bel_step hbl3.out (bel_a0 _) hb4
          clear HA HB Hh Hm A_0 A_1 A_2 A_3 A_4 A_5 A_6 A_7 A_8 A_9 A_10 A_11 m_0 m_1 m_2 m_3 m_4 lA nA lB nB lh nh lm nm hb4 hbl3
          have HA := GA
          clear GA
          have HB := GB
          clear GB
          have Hh := Gh
          clear Gh
          have Hm := Gm
          clear Gm
          have lA := blk_lt HA.out
          have nA : ¬ w.heap.size = w4.heap.size := by omega
          have lB := blk_lt HB.out
          have nB : ¬ w.heap.size + 1 = w4.heap.size := by omega
          have lh := blk_lt Hh.out
          have nh : ¬ w.heap.size + 1 + 1 = w4.heap.size := by omega
          have lm := blk_lt Hm.out
          have nm : ¬ w1.heap.size = w4.heap.size := by omega
          obtain ⟨B_0, B_1, B_2, B_3, B_4, B_5, B_6, B_7, B_8, B_9, B_10, B_11⟩ := blk12 HB.out
          obtain ⟨m_0, m_1, m_2, m_3, m_4⟩ := blk5 Hm.out
          go_wp2_with (fail)
          refine (hMB _).mono ?_
          rintro e w5 ⟨rfl, hb5⟩
          have GA : Hid (w5.heap[w.heap.size]? = some (.cells #[.int .i64 A.i, .int .u32 (A.s : Int), .int .i64 A.sl, .int .u32 (A.d : Int), .int .i64 A.dl, .int .u16 (A.p.1 : Int), .int .u16 (A.p.2 : Int), .int .u16 (A.q.1 : Int), .int .u16 (A.q.2 : Int), .int .u8 (A.m.1 : Int), .int .u8 (A.m.2 : Int), .int .i64 A.act] 32)) := blk_on HA.out hb5
          have GB : Hid (w5.heap[w.heap.size + 1]? = some (.cells #[.int .i64 B.i, .int .u32 (B.s : Int), .int .i64 B.sl, .int .u32 (B.d : Int), .int .i64 B.dl, .int .u16 (B.p.1 : Int), .int .u16 (B.p.2 : Int), .int .u16 (B.q.1 : Int), .int .u16 (B.q.2 : Int), .int .u8 (B.m.1 : Int), .int .u8 (B.m.2 : Int), .int .i64 B.act] 32)) := blk_on HB.out hb5
          have Gh : Hid (w5.heap[w.heap.size + 1 + 1]? = some (.cells #[.int .u32 (h.s : Int), .int .u32 (h.d : Int), .int .u16 (h.p : Int), .int .u16 (h.q : Int), .int .u8 (h.r : Int)] 34)) := blk_on Hh.out hb5
          have Gm : Hid (w5.heap[w1.heap.size]? = some (.cells #[.int .u32 (M.s : Int), .int .u32 (M.d : Int), .int .u16 (M.p : Int), .int .u16 (M.q : Int), .int .u8 (M.r : Int)] 34)) := blk_on Hm.out hb5
          have hbl5 : Hid (Below w.heap.size w w5) := bel_step hbl4.out (bel_a0 _) hb5
          clear HA HB Hh Hm B_0 B_1 B_2 B_3 B_4 B_5 B_6 B_7 B_8 B_9 B_10 B_11 m_0 m_1 m_2 m_3 m_4 lA nA lB nB lh nh lm nm hb5 hbl4
          have HA := GA
          clear GA
          have HB := GB
          clear GB
          have Hh := Gh
          clear Gh
          have Hm := Gm
          clear Gm
          have lA := blk_lt HA.out
          have nA : ¬ w.heap.size = w5.heap.size := by omega
          have lB := blk_lt HB.out
          have nB : ¬ w.heap.size + 1 = w5.heap.size := by omega
          have lh := blk_lt Hh.out
          have nh : ¬ w.heap.size + 1 + 1 = w5.heap.size := by omega
          have lm := blk_lt Hm.out
          have nm : ¬ w1.heap.size = w5.heap.size := by omega
          obtain ⟨A_0, A_1, A_2, A_3, A_4, A_5, A_6, A_7, A_8, A_9, A_10, A_11⟩ := blk12 HA.out
          obtain ⟨B_0, B_1, B_2, B_3, B_4, B_5, B_6, B_7, B_8, B_9, B_10, B_11⟩ := blk12 HB.out
          go_wp2_with (fail)
          refine (hBA _).mono ?_
          rintro e w6 ⟨rfl, hb6⟩
          have GA : Hid (w6.heap[w.heap.size]? = some (.cells #[.int .i64 A.i, .int .u32 (A.s : Int), .int .i64 A.sl, .int .u32 (A.d : Int), .int .i64 A.dl, .int .u16 (A.p.1 : Int), .int .u16 (A.p.2 : Int), .int .u16 (A.q.1 : Int), .int .u16 (A.q.2 : Int), .int .u8 (A.m.1 : Int), .int .u8 (A.m.2 : Int), .int .i64 A.act] 32)) := blk_on HA.out hb6
          have GB : Hid (w6.heap[w.heap.size + 1]? = some (.cells #[.int .i64 B.i, .int .u32 (B.s : Int), .int .i64 B.sl, .int .u32 (B.d : Int), .int .i64 B.dl, .int .u16 (B.p.1 : Int), .int .u16 (B.p.2 : Int), .int .u16 (B.q.1 : Int), .int .u16 (B.q.2 : Int), .int .u8 (B.m.1 : Int), .int .u8 (B.m.2 : Int), .int .i64 B.act] 32)) := blk_on HB.out hb6
          have Gh : Hid (w6.heap[w.heap.size + 1 + 1]? = some (.cells #[.int .u32 (h.s : Int), .int .u32 (h.d : Int), .int .u16 (h.p : Int), .int .u16 (h.q : Int), .int .u8 (h.r : Int)] 34)) := blk_on Hh.out hb6
          have Gm : Hid (w6.heap[w1.heap.size]? = some (.cells #[.int .u32 (M.s : Int), .int .u32 (M.d : Int), .int .u16 (M.p : Int), .int .u16 (M.q : Int), .int .u8 (M.r : Int)] 34)) := blk_on Hm.out hb6
          have hbl6 : Hid (Below w.heap.size w w6) := bel_step hbl5.out (bel_a0 _) hb6
          clear HA HB Hh Hm A_0 A_1 A_2 A_3 A_4 A_5 A_6 A_7 A_8 A_9 A_10 A_11 B_0 B_1 B_2 B_3 B_4 B_5 B_6 B_7 B_8 B_9 B_10 B_11 lA nA lB nB lh nh lm nm hb6 hbl5
          have HA := GA
          clear GA
          have HB := GB
          clear GB
          have Hh := Gh
          clear Gh
          have Hm := Gm
          clear Gm
          have lA := blk_lt HA.out
          have nA : ¬ w.heap.size = w6.heap.size := by omega
          have lB := blk_lt HB.out
          have nB : ¬ w.heap.size + 1 = w6.heap.size := by omega
          have lh := blk_lt Hh.out
          have nh : ¬ w.heap.size + 1 + 1 = w6.heap.size := by omega
          have lm := blk_lt Hm.out
          have nm : ¬ w1.heap.size = w6.heap.size := by omega
          obtain ⟨A_0, A_1, A_2, A_3, A_4, A_5, A_6, A_7, A_8, A_9, A_10, A_11⟩ := blk12 HA.out
          go_wp2_with (fail)
          refine (hAA _).mono ?_
          rintro e w7 ⟨rfl, hb7⟩
          have GA : Hid (w7.heap[w.heap.size]? = some (.cells #[.int .i64 A.i, .int .u32 (A.s : Int), .int .i64 A.sl, .int .u32 (A.d : Int), .int .i64 A.dl, .int .u16 (A.p.1 : Int), .int .u16 (A.p.2 : Int), .int .u16 (A.q.1 : Int), .int .u16 (A.q.2 : Int), .int .u8 (A.m.1 : Int), .int .u8 (A.m.2 : Int), .int .i64 A.act] 32)) := blk_on (blk_alloc HA.out _) hb7
          have GB : Hid (w7.heap[w.heap.size + 1]? = some (.cells #[.int .i64 B.i, .int .u32 (B.s : Int), .int .i64 B.sl, .int .u32 (B.d : Int), .int .i64 B.dl, .int .u16 (B.p.1 : Int), .int .u16 (B.p.2 : Int), .int .u16 (B.q.1 : Int), .int .u16 (B.q.2 : Int), .int .u8 (B.m.1 : Int), .int .u8 (B.m.2 : Int), .int .i64 B.act] 32)) := blk_on (blk_alloc HB.out _) hb7
          have Gh : Hid (w7.heap[w.heap.size + 1 + 1]? = some (.cells #[.int .u32 (h.s : Int), .int .u32 (h.d : Int), .int .u16 (h.p : Int), .int .u16 (h.q : Int), .int .u8 (h.r : Int)] 34)) := blk_on (blk_alloc Hh.out _) hb7
          have Gm : Hid (w7.heap[w1.heap.size]? = some (.cells #[.int .u32 (M.s : Int), .int .u32 (M.d : Int), .int .u16 (M.p : Int), .int .u16 (M.q : Int), .int .u8 (M.r : Int)] 34)) := blk_on (blk_alloc Hm.out _) hb7
          have Gn : Hid (w7.heap[w6.heap.size]? = some (.cells #[.int .u32 (M.s : Int), .int .u32 (M.d : Int), .int .u16 (M.p : Int), .int .u16 (M.q : Int), .int .u8 (M.r : Int)] 34)) := blk_on (blk_new w6 (.cells #[.int .u32 (M.s : Int), .int .u32 (M.d : Int), .int .u16 (M.p : Int), .int .u16 (M.q : Int), .int .u8 (M.r : Int)] 34)) hb7
          have HO7 : Hid (w6.heap.size < w7.heap.size) := blk_lt Gn.out
          have hbl7 : Hid (Below w.heap.size w w7) := bel_step hbl6.out (bel_a1 _ _) hb7
          clear HA HB Hh Hm A_0 A_1 A_2 A_3 A_4 A_5 A_6 A_7 A_8 A_9 A_10 A_11 lA nA lB nB lh nh lm nm hb7 hbl6
          have HA := GA
          clear GA
          have HB := GB
          clear GB
          have Hh := Gh
          clear Gh
          have Hm := Gm
          clear Gm
          have Hn := Gn
          clear Gn
          have lA := blk_lt HA.out
          have nA : ¬ w.heap.size = w7.heap.size := by omega
          have lB := blk_lt HB.out
          have nB : ¬ w.heap.size + 1 = w7.heap.size := by omega
          have lh := blk_lt Hh.out
          have nh : ¬ w.heap.size + 1 + 1 = w7.heap.size := by omega
          have lm := blk_lt Hm.out
          have nm : ¬ w1.heap.size = w7.heap.size := by omega
          have ln := blk_lt Hn.out
          have nn : ¬ w6.heap.size = w7.heap.size := by omega
          obtain ⟨A_0, A_1, A_2, A_3, A_4, A_5, A_6, A_7, A_8, A_9, A_10, A_11⟩ := blk12 HA.out
          go_wp2_with (fail)
          refine (hX _).mono ?_
          rintro e w8 ⟨rfl, hb8⟩
          have GA : Hid (w8.heap[w.heap.size]? = some (.cells #[.int .i64 A.i, .int .u32 (A.s : Int), .int .i64 A.sl, .int .u32 (A.d : Int), .int .i64 A.dl, .int .u16 (A.p.1 : Int), .int .u16 (A.p.2 : Int), .int .u16 (A.q.1 : Int), .int .u16 (A.q.2 : Int), .int .u8 (A.m.1 : Int), .int .u8 (A.m.2 : Int), .int .i64 A.act] 32)) := blk_on (blk_alloc HA.out _) hb8
          have GB : Hid (w8.heap[w.heap.size + 1]? = some (.cells #[.int .i64 B.i, .int .u32 (B.s : Int), .int .i64 B.sl, .int .u32 (B.d : Int), .int .i64 B.dl, .int .u16 (B.p.1 : Int), .int .u16 (B.p.2 : Int), .int .u16 (B.q.1 : Int), .int .u16 (B.q.2 : Int), .int .u8 (B.m.1 : Int), .int .u8 (B.m.2 : Int), .int .i64 B.act] 32)) := blk_on (blk_alloc HB.out _) hb8
          have Gh : Hid (w8.heap[w.heap.size + 1 + 1]? = some (.cells #[.int .u32 (h.s : Int), .int .u32 (h.d : Int), .int .u16 (h.p : Int), .int .u16 (h.q : Int), .int .u8 (h.r : Int)] 34)) := blk_on (blk_alloc Hh.out _) hb8
          have Gm : Hid (w8.heap[w1.heap.size]? = some (.cells #[.int .u32 (M.s : Int), .int .u32 (M.d : Int), .int .u16 (M.p : Int), .int .u16 (M.q : Int), .int .u8 (M.r : Int)] 34)) := blk_on (blk_alloc Hm.out _) hb8
          have Gn : Hid (w8.heap[w6.heap.size]? = some (.cells #[.int .u32 (M.s : Int), .int .u32 (M.d : Int), .int .u16 (M.p : Int), .int .u16 (M.q : Int), .int .u8 (M.r : Int)] 34)) := blk_on (blk_alloc Hn.out _) hb8
          have Gs : Hid (w8.heap[w7.heap.size]? = some (.cells #[.int .u32 (L.s : Int), .int .u32 (L.d : Int), .int .u16 (L.p : Int), .int .u16 (L.q : Int), .int .u8 (L.r : Int)] 34)) := blk_on (blk_new w7 (.cells #[.int .u32 (L.s : Int), .int .u32 (L.d : Int), .int .u16 (L.p : Int), .int .u16 (L.q : Int), .int .u8 (L.r : Int)] 34)) hb8
          have HO8 : Hid (w7.heap.size < w8.heap.size) := blk_lt Gs.out
          have hbl8 : Hid (Below w.heap.size w w8) := bel_step hbl7.out (bel_a1 _ _) hb8
          clear HA HB Hh Hm Hn A_0 A_1 A_2 A_3 A_4 A_5 A_6 A_7 A_8 A_9 A_10 A_11 lA nA lB nB lh nh lm nm ln nn hb8 hbl7
          have HA := GA
          clear GA
          have HB := GB
          clear GB
          have Hh := Gh
          clear Gh
          have Hm := Gm
          clear Gm
          have Hn := Gn
          clear Gn
          have Hs := Gs
          clear Gs
          have lA := blk_lt HA.out
          have nA : ¬ w.heap.size = w8.heap.size := by omega
          have lB := blk_lt HB.out
          have nB : ¬ w.heap.size + 1 = w8.heap.size := by omega
          have lh := blk_lt Hh.out
          have nh : ¬ w.heap.size + 1 + 1 = w8.heap.size := by omega
          have lm := blk_lt Hm.out
          have nm : ¬ w1.heap.size = w8.heap.size := by omega
          have ln := blk_lt Hn.out
          have nn : ¬ w6.heap.size = w8.heap.size := by omega
          have ls := blk_lt Hs.out
          have ns : ¬ w7.heap.size = w8.heap.size := by omega
          go_wp2_with (fail)
          refine (hF _).mono ?_
          rintro e w9 ⟨rfl, hb9⟩
          have GA : Hid (w9.heap[w.heap.size]? = some (.cells #[.int .i64 A.i, .int .u32 (A.s : Int), .int .i64 A.sl, .int .u32 (A.d : Int), .int .i64 A.dl, .int .u16 (A.p.1 : Int), .int .u16 (A.p.2 : Int), .int .u16 (A.q.1 : Int), .int .u16 (A.q.2 : Int), .int .u8 (A.m.1 : Int), .int .u8 (A.m.2 : Int), .int .i64 A.act] 32)) := blk_on (blk_alloc HA.out _) hb9
          have GB : Hid (w9.heap[w.heap.size + 1]? = some (.cells #[.int .i64 B.i, .int .u32 (B.s : Int), .int .i64 B.sl, .int .u32 (B.d : Int), .int .i64 B.dl, .int .u16 (B.p.1 : Int), .int .u16 (B.p.2 : Int), .int .u16 (B.q.1 : Int), .int .u16 (B.q.2 : Int), .int .u8 (B.m.1 : Int), .int .u8 (B.m.2 : Int), .int .i64 B.act] 32)) := blk_on (blk_alloc HB.out _) hb9
          have Gh : Hid (w9.heap[w.heap.size + 1 + 1]? = some (.cells #[.int .u32 (h.s : Int), .int .u32 (h.d : Int), .int .u16 (h.p : Int), .int .u16 (h.q : Int), .int .u8 (h.r : Int)] 34)) := blk_on (blk_alloc Hh.out _) hb9
          have Gm : Hid (w9.heap[w1.heap.size]? = some (.cells #[.int .u32 (M.s : Int), .int .u32 (M.d : Int), .int .u16 (M.p : Int), .int .u16 (M.q : Int), .int .u8 (M.r : Int)] 34)) := blk_on (blk_alloc Hm.out _) hb9
          have Gn : Hid (w9.heap[w6.heap.size]? = some (.cells #[.int .u32 (M.s : Int), .int .u32 (M.d : Int), .int .u16 (M.p : Int), .int .u16 (M.q : Int), .int .u8 (M.r : Int)] 34)) := blk_on (blk_alloc Hn.out _) hb9
          have Gs : Hid (w9.heap[w7.heap.size]? = some (.cells #[.int .u32 (L.s : Int), .int .u32 (L.d : Int), .int .u16 (L.p : Int), .int .u16 (L.q : Int), .int .u8 (L.r : Int)] 34)) := blk_on (blk_alloc Hs.out _) hb9
          have Gy : Hid (w9.heap[w8.heap.size]? = some (.cells #[.int .u32 (X.a.1 : Int), .int .u32 (X.a.2 : Int), .int .u32 (X.b.1 : Int), .int .u32 (X.b.2 : Int), .int .u16 (X.c.1 : Int), .int .u16 (X.c.2 : Int), .int .u16 (X.d.1 : Int), .int .u16 (X.d.2 : Int), .int .u8 (X.m.1 : Int), .int .u8 (X.m.2 : Int)] 41)) := blk_on (blk_new w8 (.cells #[.int .u32 (X.a.1 : Int), .int .u32 (X.a.2 : Int), .int .u32 (X.b.1 : Int), .int .u32 (X.b.2 : Int), .int .u16 (X.c.1 : Int), .int .u16 (X.c.2 : Int), .int .u16 (X.d.1 : Int), .int .u16 (X.d.2 : Int), .int .u8 (X.m.1 : Int), .int .u8 (X.m.2 : Int)] 41)) hb9
          have HO9 : Hid (w8.heap.size < w9.heap.size) := blk_lt Gy.out
          have hbl9 : Hid (Below w.heap.size w w9) := bel_step hbl8.out (bel_a1 _ _) hb9
          clear HA HB Hh Hm Hn Hs lA nA lB nB lh nh lm nm ln nn ls ns hb9 hbl8
          have HA := GA
          clear GA
          have HB := GB
          clear GB
          have Hh := Gh
          clear Gh
          have Hm := Gm
          clear Gm
          have Hn := Gn
          clear Gn
          have Hs := Gs
          clear Gs
          have Hy := Gy
          clear Gy
          have lA := blk_lt HA.out
          have nA : ¬ w.heap.size = w9.heap.size := by omega
          have lB := blk_lt HB.out
          have nB : ¬ w.heap.size + 1 = w9.heap.size := by omega
          have lh := blk_lt Hh.out
          have nh : ¬ w.heap.size + 1 + 1 = w9.heap.size := by omega
          have lm := blk_lt Hm.out
          have nm : ¬ w1.heap.size = w9.heap.size := by omega
          have ln := blk_lt Hn.out
          have nn : ¬ w6.heap.size = w9.heap.size := by omega
          have ls := blk_lt Hs.out
          have ns : ¬ w7.heap.size = w9.heap.size := by omega
          have ly := blk_lt Hy.out
          have ny : ¬ w8.heap.size = w9.heap.size := by omega
          go_wp2_with (fail)
          refine (awakeR _).mono ?_
          rintro e w10 ⟨rfl, hb10⟩
          have GA : Hid (w10.heap[w.heap.size]? = some (.cells #[.int .i64 A.i, .int .u32 (A.s : Int), .int .i64 A.sl, .int .u32 (A.d : Int), .int .i64 A.dl, .int .u16 (A.p.1 : Int), .int .u16 (A.p.2 : Int), .int .u16 (A.q.1 : Int), .int .u16 (A.q.2 : Int), .int .u8 (A.m.1 : Int), .int .u8 (A.m.2 : Int), .int .i64 A.act] 32)) := blk_on (blk_alloc HA.out _) hb10
          have GB : Hid (w10.heap[w.heap.size + 1]? = some (.cells #[.int .i64 B.i, .int .u32 (B.s : Int), .int .i64 B.sl, .int .u32 (B.d : Int), .int .i64 B.dl, .int .u16 (B.p.1 : Int), .int .u16 (B.p.2 : Int), .int .u16 (B.q.1 : Int), .int .u16 (B.q.2 : Int), .int .u8 (B.m.1 : Int), .int .u8 (B.m.2 : Int), .int .i64 B.act] 32)) := blk_on (blk_alloc HB.out _) hb10
          have Gh : Hid (w10.heap[w.heap.size + 1 + 1]? = some (.cells #[.int .u32 (h.s : Int), .int .u32 (h.d : Int), .int .u16 (h.p : Int), .int .u16 (h.q : Int), .int .u8 (h.r : Int)] 34)) := blk_on (blk_alloc Hh.out _) hb10
          have Gm : Hid (w10.heap[w1.heap.size]? = some (.cells #[.int .u32 (M.s : Int), .int .u32 (M.d : Int), .int .u16 (M.p : Int), .int .u16 (M.q : Int), .int .u8 (M.r : Int)] 34)) := blk_on (blk_alloc Hm.out _) hb10
          have Gn : Hid (w10.heap[w6.heap.size]? = some (.cells #[.int .u32 (M.s : Int), .int .u32 (M.d : Int), .int .u16 (M.p : Int), .int .u16 (M.q : Int), .int .u8 (M.r : Int)] 34)) := blk_on (blk_alloc Hn.out _) hb10
          have Gs : Hid (w10.heap[w7.heap.size]? = some (.cells #[.int .u32 (L.s : Int), .int .u32 (L.d : Int), .int .u16 (L.p : Int), .int .u16 (L.q : Int), .int .u8 (L.r : Int)] 34)) := blk_on (blk_alloc Hs.out _) hb10
          have Gy : Hid (w10.heap[w8.heap.size]? = some (.cells #[.int .u32 (X.a.1 : Int), .int .u32 (X.a.2 : Int), .int .u32 (X.b.1 : Int), .int .u32 (X.b.2 : Int), .int .u16 (X.c.1 : Int), .int .u16 (X.c.2 : Int), .int .u16 (X.d.1 : Int), .int .u16 (X.d.2 : Int), .int .u8 (X.m.1 : Int), .int .u8 (X.m.2 : Int)] 41)) := blk_on (blk_alloc Hy.out _) hb10
          have Gx : Hid (w10.heap[w9.heap.size]? = some (.cells #[.int .u32 (L.s : Int), .int .u32 (L.d : Int), .int .u16 (L.p : Int), .int .u16 (L.q : Int), .int .u8 (L.r : Int)] 34)) := blk_on (blk_new w9 (.cells #[.int .u32 (L.s : Int), .int .u32 (L.d : Int), .int .u16 (L.p : Int), .int .u16 (L.q : Int), .int .u8 (L.r : Int)] 34)) hb10
          have HO10 : Hid (w9.heap.size < w10.heap.size) := blk_lt Gx.out
          have hbl10 : Hid (Below w.heap.size w w10) := bel_step hbl9.out (bel_a1 _ _) hb10
          clear HA HB Hh Hm Hn Hs Hy lA nA lB nB lh nh lm nm ln nn ls ns ly ny hb10 hbl9
          have HA := GA
          clear GA
          have HB := GB
          clear GB
          have Hh := Gh
          clear Gh
          have Hm := Gm
          clear Gm
          have Hn := Gn
          clear Gn
          have Hs := Gs
          clear Gs
          have Hy := Gy
          clear Gy
          have Hx := Gx
          clear Gx
          have lA := blk_lt HA.out
          have nA : ¬ w.heap.size = w10.heap.size := by omega
          have lB := blk_lt HB.out
          have nB : ¬ w.heap.size + 1 = w10.heap.size := by omega
          have lh := blk_lt Hh.out
          have nh : ¬ w.heap.size + 1 + 1 = w10.heap.size := by omega
          have lm := blk_lt Hm.out
          have nm : ¬ w1.heap.size = w10.heap.size := by omega
          have ln := blk_lt Hn.out
          have nn : ¬ w6.heap.size = w10.heap.size := by omega
          have ls := blk_lt Hs.out
          have ns : ¬ w7.heap.size = w10.heap.size := by omega
          have ly := blk_lt Hy.out
          have ny : ¬ w8.heap.size = w10.heap.size := by omega
          have lx := blk_lt Hx.out
          have nx : ¬ w9.heap.size = w10.heap.size := by omega
          obtain ⟨n_0, n_1, n_2, n_3, n_4⟩ := blk5 Hn.out
          obtain ⟨m_0, m_1, m_2, m_3, m_4⟩ := blk5 Hm.out
          obtain ⟨s_0, s_1, s_2, s_3, s_4⟩ := blk5 Hs.out
          obtain ⟨x_0, x_1, x_2, x_3, x_4⟩ := blk5 Hx.out
          go_wp2_with (fail)
          go_ret
          exact ⟨rfl, hbl10.out⟩
        · have hr1 := HR1.out (by simp) (by simp)
          have hr2 : (r == 1) = false := by simpa using hr1
          obtain ⟨m_0, m_1, m_2, m_3, m_4⟩ := blk5 Hm.out
          obtain ⟨h_0, h_1, h_2, h_3, h_4⟩ := blk5 Hh.out
          go_wp2_with (fail)
          refine (hc _).mono ?_
          rintro e w4 ⟨rfl, hb4⟩
          have GA : Hid (w4.heap[w.heap.size]? = some (.cells #[.int .i64 A.i, .int .u32 (A.s : Int), .int .i64 A.sl, .int .u32 (A.d : Int), .int .i64 A.dl, .int .u16 (A.p.1 : Int), .int .u16 (A.p.2 : Int), .int .u16 (A.q.1 : Int), .int .u16 (A.q.2 : Int), .int .u8 (A.m.1 : Int), .int .u8 (A.m.2 : Int), .int .i64 A.act] 32)) := blk_on HA.out hb4
          have GB : Hid (w4.heap[w.heap.size + 1]? = some (.cells #[.int .i64 B.i, .int .u32 (B.s : Int), .int .i64 B.sl, .int .u32 (B.d : Int), .int .i64 B.dl, .int .u16 (B.p.1 : Int), .int .u16 (B.p.2 : Int), .int .u16 (B.q.1 : Int), .int .u16 (B.q.2 : Int), .int .u8 (B.m.1 : Int), .int .u8 (B.m.2 : Int), .int .i64 B.act] 32)) := blk_on HB.out hb4
          have Gh : Hid (w4.heap[w.heap.size + 1 + 1]? = some (.cells #[.int .u32 (h.s : Int), .int .u32 (h.d : Int), .int .u16 (h.p : Int), .int .u16 (h.q : Int), .int .u8 (h.r : Int)] 34)) := blk_on Hh.out hb4
          have Gm : Hid (w4.heap[w1.heap.size]? = some (.cells #[.int .u32 (M.s : Int), .int .u32 (M.d : Int), .int .u16 (M.p : Int), .int .u16 (M.q : Int), .int .u8 (M.r : Int)] 34)) := blk_on Hm.out hb4
          have hbl4 : Hid (Below w.heap.size w w4) := bel_step hbl3.out (bel_a0 _) hb4
          clear HA HB Hh Hm m_0 m_1 m_2 m_3 m_4 h_0 h_1 h_2 h_3 h_4 lA nA lB nB lh nh lm nm hb4 hbl3
          have HA := GA
          clear GA
          have HB := GB
          clear GB
          have Hh := Gh
          clear Gh
          have Hm := Gm
          clear Gm
          have lA := blk_lt HA.out
          have nA : ¬ w.heap.size = w4.heap.size := by omega
          have lB := blk_lt HB.out
          have nB : ¬ w.heap.size + 1 = w4.heap.size := by omega
          have lh := blk_lt Hh.out
          have nh : ¬ w.heap.size + 1 + 1 = w4.heap.size := by omega
          have lm := blk_lt Hm.out
          have nm : ¬ w1.heap.size = w4.heap.size := by omega
          obtain ⟨A_0, A_1, A_2, A_3, A_4, A_5, A_6, A_7, A_8, A_9, A_10, A_11⟩ := blk12 HA.out
          obtain ⟨m_0, m_1, m_2, m_3, m_4⟩ := blk5 Hm.out
          go_wp2_with (fail)
          refine (hMA _).mono ?_
          rintro e w5 ⟨rfl, hb5⟩
          have GA : Hid (w5.heap[w.heap.size]? = some (.cells #[.int .i64 A.i, .int .u32 (A.s : Int), .int .i64 A.sl, .int .u32 (A.d : Int), .int .i64 A.dl, .int .u16 (A.p.1 : Int), .int .u16 (A.p.2 : Int), .int .u16 (A.q.1 : Int), .int .u16 (A.q.2 : Int), .int .u8 (A.m.1 : Int), .int .u8 (A.m.2 : Int), .int .i64 A.act] 32)) := blk_on HA.out hb5
          have GB : Hid (w5.heap[w.heap.size + 1]? = some (.cells #[.int .i64 B.i, .int .u32 (B.s : Int), .int .i64 B.sl, .int .u32 (B.d : Int), .int .i64 B.dl, .int .u16 (B.p.1 : Int), .int .u16 (B.p.2 : Int), .int .u16 (B.q.1 : Int), .int .u16 (B.q.2 : Int), .int .u8 (B.m.1 : Int), .int .u8 (B.m.2 : Int), .int .i64 B.act] 32)) := blk_on HB.out hb5
          have Gh : Hid (w5.heap[w.heap.size + 1 + 1]? = some (.cells #[.int .u32 (h.s : Int), .int .u32 (h.d : Int), .int .u16 (h.p : Int), .int .u16 (h.q : Int), .int .u8 (h.r : Int)] 34)) := blk_on Hh.out hb5
          have Gm : Hid (w5.heap[w1.heap.size]? = some (.cells #[.int .u32 (M.s : Int), .int .u32 (M.d : Int), .int .u16 (M.p : Int), .int .u16 (M.q : Int), .int .u8 (M.r : Int)] 34)) := blk_on Hm.out hb5
          have hbl5 : Hid (Below w.heap.size w w5) := bel_step hbl4.out (bel_a0 _) hb5
          clear HA HB Hh Hm A_0 A_1 A_2 A_3 A_4 A_5 A_6 A_7 A_8 A_9 A_10 A_11 m_0 m_1 m_2 m_3 m_4 lA nA lB nB lh nh lm nm hb5 hbl4
          have HA := GA
          clear GA
          have HB := GB
          clear GB
          have Hh := Gh
          clear Gh
          have Hm := Gm
          clear Gm
          have lA := blk_lt HA.out
          have nA : ¬ w.heap.size = w5.heap.size := by omega
          have lB := blk_lt HB.out
          have nB : ¬ w.heap.size + 1 = w5.heap.size := by omega
          have lh := blk_lt Hh.out
          have nh : ¬ w.heap.size + 1 + 1 = w5.heap.size := by omega
          have lm := blk_lt Hm.out
          have nm : ¬ w1.heap.size = w5.heap.size := by omega
          obtain ⟨B_0, B_1, B_2, B_3, B_4, B_5, B_6, B_7, B_8, B_9, B_10, B_11⟩ := blk12 HB.out
          obtain ⟨m_0, m_1, m_2, m_3, m_4⟩ := blk5 Hm.out
          go_wp2_with (fail)
          refine (hMB _).mono ?_
          rintro e w6 ⟨rfl, hb6⟩
          have GA : Hid (w6.heap[w.heap.size]? = some (.cells #[.int .i64 A.i, .int .u32 (A.s : Int), .int .i64 A.sl, .int .u32 (A.d : Int), .int .i64 A.dl, .int .u16 (A.p.1 : Int), .int .u16 (A.p.2 : Int), .int .u16 (A.q.1 : Int), .int .u16 (A.q.2 : Int), .int .u8 (A.m.1 : Int), .int .u8 (A.m.2 : Int), .int .i64 A.act] 32)) := blk_on HA.out hb6
          have GB : Hid (w6.heap[w.heap.size + 1]? = some (.cells #[.int .i64 B.i, .int .u32 (B.s : Int), .int .i64 B.sl, .int .u32 (B.d : Int), .int .i64 B.dl, .int .u16 (B.p.1 : Int), .int .u16 (B.p.2 : Int), .int .u16 (B.q.1 : Int), .int .u16 (B.q.2 : Int), .int .u8 (B.m.1 : Int), .int .u8 (B.m.2 : Int), .int .i64 B.act] 32)) := blk_on HB.out hb6
          have Gh : Hid (w6.heap[w.heap.size + 1 + 1]? = some (.cells #[.int .u32 (h.s : Int), .int .u32 (h.d : Int), .int .u16 (h.p : Int), .int .u16 (h.q : Int), .int .u8 (h.r : Int)] 34)) := blk_on Hh.out hb6
          have Gm : Hid (w6.heap[w1.heap.size]? = some (.cells #[.int .u32 (M.s : Int), .int .u32 (M.d : Int), .int .u16 (M.p : Int), .int .u16 (M.q : Int), .int .u8 (M.r : Int)] 34)) := blk_on Hm.out hb6
          have hbl6 : Hid (Below w.heap.size w w6) := bel_step hbl5.out (bel_a0 _) hb6
          clear HA HB Hh Hm B_0 B_1 B_2 B_3 B_4 B_5 B_6 B_7 B_8 B_9 B_10 B_11 m_0 m_1 m_2 m_3 m_4 lA nA lB nB lh nh lm nm hb6 hbl5
          have HA := GA
          clear GA
          have HB := GB
          clear GB
          have Hh := Gh
          clear Gh
          have Hm := Gm
          clear Gm
          have lA := blk_lt HA.out
          have nA : ¬ w.heap.size = w6.heap.size := by omega
          have lB := blk_lt HB.out
          have nB : ¬ w.heap.size + 1 = w6.heap.size := by omega
          have lh := blk_lt Hh.out
          have nh : ¬ w.heap.size + 1 + 1 = w6.heap.size := by omega
          have lm := blk_lt Hm.out
          have nm : ¬ w1.heap.size = w6.heap.size := by omega
          obtain ⟨A_0, A_1, A_2, A_3, A_4, A_5, A_6, A_7, A_8, A_9, A_10, A_11⟩ := blk12 HA.out
          obtain ⟨B_0, B_1, B_2, B_3, B_4, B_5, B_6, B_7, B_8, B_9, B_10, B_11⟩ := blk12 HB.out
          go_wp2_with (fail)
          refine (hBA _).mono ?_
          rintro e w7 ⟨rfl, hb7⟩
          have GA : Hid (w7.heap[w.heap.size]? = some (.cells #[.int .i64 A.i, .int .u32 (A.s : Int), .int .i64 A.sl, .int .u32 (A.d : Int), .int .i64 A.dl, .int .u16 (A.p.1 : Int), .int .u16 (A.p.2 : Int), .int .u16 (A.q.1 : Int), .int .u16 (A.q.2 : Int), .int .u8 (A.m.1 : Int), .int .u8 (A.m.2 : Int), .int .i64 A.act] 32)) := blk_on HA.out hb7
          have GB : Hid (w7.heap[w.heap.size + 1]? = some (.cells #[.int .i64 B.i, .int .u32 (B.s : Int), .int .i64 B.sl, .int .u32 (B.d : Int), .int .i64 B.dl, .int .u16 (B.p.1 : Int), .int .u16 (B.p.2 : Int), .int .u16 (B.q.1 : Int), .int .u16 (B.q.2 : Int), .int .u8 (B.m.1 : Int), .int .u8 (B.m.2 : Int), .int .i64 B.act] 32)) := blk_on HB.out hb7
          have Gh : Hid (w7.heap[w.heap.size + 1 + 1]? = some (.cells #[.int .u32 (h.s : Int), .int .u32 (h.d : Int), .int .u16 (h.p : Int), .int .u16 (h.q : Int), .int .u8 (h.r : Int)] 34)) := blk_on Hh.out hb7
          have Gm : Hid (w7.heap[w1.heap.size]? = some (.cells #[.int .u32 (M.s : Int), .int .u32 (M.d : Int), .int .u16 (M.p : Int), .int .u16 (M.q : Int), .int .u8 (M.r : Int)] 34)) := blk_on Hm.out hb7
          have hbl7 : Hid (Below w.heap.size w w7) := bel_step hbl6.out (bel_a0 _) hb7
          clear HA HB Hh Hm A_0 A_1 A_2 A_3 A_4 A_5 A_6 A_7 A_8 A_9 A_10 A_11 B_0 B_1 B_2 B_3 B_4 B_5 B_6 B_7 B_8 B_9 B_10 B_11 lA nA lB nB lh nh lm nm hb7 hbl6
          have HA := GA
          clear GA
          have HB := GB
          clear GB
          have Hh := Gh
          clear Gh
          have Hm := Gm
          clear Gm
          have lA := blk_lt HA.out
          have nA : ¬ w.heap.size = w7.heap.size := by omega
          have lB := blk_lt HB.out
          have nB : ¬ w.heap.size + 1 = w7.heap.size := by omega
          have lh := blk_lt Hh.out
          have nh : ¬ w.heap.size + 1 + 1 = w7.heap.size := by omega
          have lm := blk_lt Hm.out
          have nm : ¬ w1.heap.size = w7.heap.size := by omega
          obtain ⟨A_0, A_1, A_2, A_3, A_4, A_5, A_6, A_7, A_8, A_9, A_10, A_11⟩ := blk12 HA.out
          go_wp2_with (fail)
          refine (hAA _).mono ?_
          rintro e w8 ⟨rfl, hb8⟩
          have GA : Hid (w8.heap[w.heap.size]? = some (.cells #[.int .i64 A.i, .int .u32 (A.s : Int), .int .i64 A.sl, .int .u32 (A.d : Int), .int .i64 A.dl, .int .u16 (A.p.1 : Int), .int .u16 (A.p.2 : Int), .int .u16 (A.q.1 : Int), .int .u16 (A.q.2 : Int), .int .u8 (A.m.1 : Int), .int .u8 (A.m.2 : Int), .int .i64 A.act] 32)) := blk_on (blk_alloc HA.out _) hb8
          have GB : Hid (w8.heap[w.heap.size + 1]? = some (.cells #[.int .i64 B.i, .int .u32 (B.s : Int), .int .i64 B.sl, .int .u32 (B.d : Int), .int .i64 B.dl, .int .u16 (B.p.1 : Int), .int .u16 (B.p.2 : Int), .int .u16 (B.q.1 : Int), .int .u16 (B.q.2 : Int), .int .u8 (B.m.1 : Int), .int .u8 (B.m.2 : Int), .int .i64 B.act] 32)) := blk_on (blk_alloc HB.out _) hb8
          have Gh : Hid (w8.heap[w.heap.size + 1 + 1]? = some (.cells #[.int .u32 (h.s : Int), .int .u32 (h.d : Int), .int .u16 (h.p : Int), .int .u16 (h.q : Int), .int .u8 (h.r : Int)] 34)) := blk_on (blk_alloc Hh.out _) hb8
          have Gm : Hid (w8.heap[w1.heap.size]? = some (.cells #[.int .u32 (M.s : Int), .int .u32 (M.d : Int), .int .u16 (M.p : Int), .int .u16 (M.q : Int), .int .u8 (M.r : Int)] 34)) := blk_on (blk_alloc Hm.out _) hb8
          have Gn : Hid (w8.heap[w7.heap.size]? = some (.cells #[.int .u32 (M.s : Int), .int .u32 (M.d : Int), .int .u16 (M.p : Int), .int .u16 (M.q : Int), .int .u8 (M.r : Int)] 34)) := blk_on (blk_new w7 (.cells #[.int .u32 (M.s : Int), .int .u32 (M.d : Int), .int .u16 (M.p : Int), .int .u16 (M.q : Int), .int .u8 (M.r : Int)] 34)) hb8
          have HO8 : Hid (w7.heap.size < w8.heap.size) := blk_lt Gn.out
          have hbl8 : Hid (Below w.heap.size w w8) := bel_step hbl7.out (bel_a1 _ _) hb8
          clear HA HB Hh Hm A_0 A_1 A_2 A_3 A_4 A_5 A_6 A_7 A_8 A_9 A_10 A_11 lA nA lB nB lh nh lm nm hb8 hbl7
          have HA := GA
          clear GA
          have HB := GB
          clear GB
          have Hh := Gh
          clear Gh
          have Hm := Gm
          clear Gm
          have Hn := Gn
          clear Gn
          have lA := blk_lt HA.out
          have nA : ¬ w.heap.size = w8.heap.size := by omega
          have lB := blk_lt HB.out
          have nB : ¬ w.heap.size + 1 = w8.heap.size := by omega
          have lh := blk_lt Hh.out
          have nh : ¬ w.heap.size + 1 + 1 = w8.heap.size := by omega
          have lm := blk_lt Hm.out
          have nm : ¬ w1.heap.size = w8.heap.size := by omega
          have ln := blk_lt Hn.out
          have nn : ¬ w7.heap.size = w8.heap.size := by omega
          obtain ⟨A_0, A_1, A_2, A_3, A_4, A_5, A_6, A_7, A_8, A_9, A_10, A_11⟩ := blk12 HA.out
          go_wp2_with (fail)
          refine (hX _).mono ?_
          rintro e w9 ⟨rfl, hb9⟩
          have GA : Hid (w9.heap[w.heap.size]? = some (.cells #[.int .i64 A.i, .int .u32 (A.s : Int), .int .i64 A.sl, .int .u32 (A.d : Int), .int .i64 A.dl, .int .u16 (A.p.1 : Int), .int .u16 (A.p.2 : Int), .int .u16 (A.q.1 : Int), .int .u16 (A.q.2 : Int), .int .u8 (A.m.1 : Int), .int .u8 (A.m.2 : Int), .int .i64 A.act] 32)) := blk_on (blk_alloc HA.out _) hb9
          have GB : Hid (w9.heap[w.heap.size + 1]? = some (.cells #[.int .i64 B.i, .int .u32 (B.s : Int), .int .i64 B.sl, .int .u32 (B.d : Int), .int .i64 B.dl, .int .u16 (B.p.1 : Int), .int .u16 (B.p.2 : Int), .int .u16 (B.q.1 : Int), .int .u16 (B.q.2 : Int), .int .u8 (B.m.1 : Int), .int .u8 (B.m.2 : Int), .int .i64 B.act] 32)) := blk_on (blk_alloc HB.out _) hb9
          have Gh : Hid (w9.heap[w.heap.size + 1 + 1]? = some (.cells #[.int .u32 (h.s : Int), .int .u32 (h.d : Int), .int .u16 (h.p : Int), .int .u16 (h.q : Int), .int .u8 (h.r : Int)] 34)) := blk_on (blk_alloc Hh.out _) hb9
          have Gm : Hid (w9.heap[w1.heap.size]? = some (.cells #[.int .u32 (M.s : Int), .int .u32 (M.d : Int), .int .u16 (M.p : Int), .int .u16 (M.q : Int), .int .u8 (M.r : Int)] 34)) := blk_on (blk_alloc Hm.out _) hb9
          have Gn : Hid (w9.heap[w7.heap.size]? = some (.cells #[.int .u32 (M.s : Int), .int .u32 (M.d : Int), .int .u16 (M.p : Int), .int .u16 (M.q : Int), .int .u8 (M.r : Int)] 34)) := blk_on (blk_alloc Hn.out _) hb9
          have Gs : Hid (w9.heap[w8.heap.size]? = some (.cells #[.int .u32 (L.s : Int), .int .u32 (L.d : Int), .int .u16 (L.p : Int), .int .u16 (L.q : Int), .int .u8 (L.r : Int)] 34)) := blk_on (blk_new w8 (.cells #[.int .u32 (L.s : Int), .int .u32 (L.d : Int), .int .u16 (L.p : Int), .int .u16 (L.q : Int), .int .u8 (L.r : Int)] 34)) hb9
          have HO9 : Hid (w8.heap.size < w9.heap.size) := blk_lt Gs.out
          have hbl9 : Hid (Below w.heap.size w w9) := bel_step hbl8.out (bel_a1 _ _) hb9
          clear HA HB Hh Hm Hn A_0 A_1 A_2 A_3 A_4 A_5 A_6 A_7 A_8 A_9 A_10 A_11 lA nA lB nB lh nh lm nm ln nn hb9 hbl8
          have HA := GA
          clear GA
          have HB := GB
          clear GB
          have Hh := Gh
          clear Gh
          have Hm := Gm
          clear Gm
          have Hn := Gn
          clear Gn
          have Hs := Gs
          clear Gs
          have lA := blk_lt HA.out
          have nA : ¬ w.heap.size = w9.heap.size := by omega
          have lB := blk_lt HB.out
          have nB : ¬ w.heap.size + 1 = w9.heap.size := by omega
          have lh := blk_lt Hh.out
          have nh : ¬ w.heap.size + 1 + 1 = w9.heap.size := by omega
          have lm := blk_lt Hm.out
          have nm : ¬ w1.heap.size = w9.heap.size := by omega
          have ln := blk_lt Hn.out
          have nn : ¬ w7.heap.size = w9.heap.size := by omega
          have ls := blk_lt Hs.out
          have ns : ¬ w8.heap.size = w9.heap.size := by omega
          go_wp2_with (fail)
          refine (hF _).mono ?_
          rintro e w10 ⟨rfl, hb10⟩
          have GA : Hid (w10.heap[w.heap.size]? = some (.cells #[.int .i64 A.i, .int .u32 (A.s : Int), .int .i64 A.sl, .int .u32 (A.d : Int), .int .i64 A.dl, .int .u16 (A.p.1 : Int), .int .u16 (A.p.2 : Int), .int .u16 (A.q.1 : Int), .int .u16 (A.q.2 : Int), .int .u8 (A.m.1 : Int), .int .u8 (A.m.2 : Int), .int .i64 A.act] 32)) := blk_on (blk_alloc HA.out _) hb10
          have GB : Hid (w10.heap[w.heap.size + 1]? = some (.cells #[.int .i64 B.i, .int .u32 (B.s : Int), .int .i64 B.sl, .int .u32 (B.d : Int), .int .i64 B.dl, .int .u16 (B.p.1 : Int), .int .u16 (B.p.2 : Int), .int .u16 (B.q.1 : Int), .int .u16 (B.q.2 : Int), .int .u8 (B.m.1 : Int), .int .u8 (B.m.2 : Int), .int .i64 B.act] 32)) := blk_on (blk_alloc HB.out _) hb10
          have Gh : Hid (w10.heap[w.heap.size + 1 + 1]? = some (.cells #[.int .u32 (h.s : Int), .int .u32 (h.d : Int), .int .u16 (h.p : Int), .int .u16 (h.q : Int), .int .u8 (h.r : Int)] 34)) := blk_on (blk_alloc Hh.out _) hb10
          have Gm : Hid (w10.heap[w1.heap.size]? = some (.cells #[.int .u32 (M.s : Int), .int .u32 (M.d : Int), .int .u16 (M.p : Int), .int .u16 (M.q : Int), .int .u8 (M.r : Int)] 34)) := blk_on (blk_alloc Hm.out _) hb10
          have Gn : Hid (w10.heap[w7.heap.size]? = some (.cells #[.int .u32 (M.s : Int), .int .u32 (M.d : Int), .int .u16 (M.p : Int), .int .u16 (M.q : Int), .int .u8 (M.r : Int)] 34)) := blk_on (blk_alloc Hn.out _) hb10
          have Gs : Hid (w10.heap[w8.heap.size]? = some (.cells #[.int .u32 (L.s : Int), .int .u32 (L.d : Int), .int .u16 (L.p : Int), .int .u16 (L.q : Int), .int .u8 (L.r : Int)] 34)) := blk_on (blk_alloc Hs.out _) hb10
          have Gy : Hid (w10.heap[w9.heap.size]? = some (.cells #[.int .u32 (X.a.1 : Int), .int .u32 (X.a.2 : Int), .int .u32 (X.b.1 : Int), .int .u32 (X.b.2 : Int), .int .u16 (X.c.1 : Int), .int .u16 (X.c.2 : Int), .int .u16 (X.d.1 : Int), .int .u16 (X.d.2 : Int), .int .u8 (X.m.1 : Int), .int .u8 (X.m.2 : Int)] 41)) := blk_on (blk_new w9 (.cells #[.int .u32 (X.a.1 : Int), .int .u32 (X.a.2 : Int), .int .u32 (X.b.1 : Int), .int .u32 (X.b.2 : Int), .int .u16 (X.c.1 : Int), .int .u16 (X.c.2 : Int), .int .u16 (X.d.1 : Int), .int .u16 (X.d.2 : Int), .int .u8 (X.m.1 : Int), .int .u8 (X.m.2 : Int)] 41)) hb10
          have HO10 : Hid (w9.heap.size < w10.heap.size) := blk_lt Gy.out
          have hbl10 : Hid (Below w.heap.size w w10) := bel_step hbl9.out (bel_a1 _ _) hb10
          clear HA HB Hh Hm Hn Hs lA nA lB nB lh nh lm nm ln nn ls ns hb10 hbl9
          have HA := GA
          clear GA
          have HB := GB
          clear GB
          have Hh := Gh
          clear Gh
          have Hm := Gm
          clear Gm
          have Hn := Gn
          clear Gn
          have Hs := Gs
          clear Gs
          have Hy := Gy
          clear Gy
          have lA := blk_lt HA.out
          have nA : ¬ w.heap.size = w10.heap.size := by omega
          have lB := blk_lt HB.out
          have nB : ¬ w.heap.size + 1 = w10.heap.size := by omega
          have lh := blk_lt Hh.out
          have nh : ¬ w.heap.size + 1 + 1 = w10.heap.size := by omega
          have lm := blk_lt Hm.out
          have nm : ¬ w1.heap.size = w10.heap.size := by omega
          have ln := blk_lt Hn.out
          have nn : ¬ w7.heap.size = w10.heap.size := by omega
          have ls := blk_lt Hs.out
          have ns : ¬ w8.heap.size = w10.heap.size := by omega
          have ly := blk_lt Hy.out
          have ny : ¬ w9.heap.size = w10.heap.size := by omega
          go_wp2_with (fail)
          refine (awakeR _).mono ?_
          rintro e w11 ⟨rfl, hb11⟩
          have GA : Hid (w11.heap[w.heap.size]? = some (.cells #[.int .i64 A.i, .int .u32 (A.s : Int), .int .i64 A.sl, .int .u32 (A.d : Int), .int .i64 A.dl, .int .u16 (A.p.1 : Int), .int .u16 (A.p.2 : Int), .int .u16 (A.q.1 : Int), .int .u16 (A.q.2 : Int), .int .u8 (A.m.1 : Int), .int .u8 (A.m.2 : Int), .int .i64 A.act] 32)) := blk_on (blk_alloc HA.out _) hb11
          have GB : Hid (w11.heap[w.heap.size + 1]? = some (.cells #[.int .i64 B.i, .int .u32 (B.s : Int), .int .i64 B.sl, .int .u32 (B.d : Int), .int .i64 B.dl, .int .u16 (B.p.1 : Int), .int .u16 (B.p.2 : Int), .int .u16 (B.q.1 : Int), .int .u16 (B.q.2 : Int), .int .u8 (B.m.1 : Int), .int .u8 (B.m.2 : Int), .int .i64 B.act] 32)) := blk_on (blk_alloc HB.out _) hb11
          have Gh : Hid (w11.heap[w.heap.size + 1 + 1]? = some (.cells #[.int .u32 (h.s : Int), .int .u32 (h.d : Int), .int .u16 (h.p : Int), .int .u16 (h.q : Int), .int .u8 (h.r : Int)] 34)) := blk_on (blk_alloc Hh.out _) hb11
          have Gm : Hid (w11.heap[w1.heap.size]? = some (.cells #[.int .u32 (M.s : Int), .int .u32 (M.d : Int), .int .u16 (M.p : Int), .int .u16 (M.q : Int), .int .u8 (M.r : Int)] 34)) := blk_on (blk_alloc Hm.out _) hb11
          have Gn : Hid (w11.heap[w7.heap.size]? = some (.cells #[.int .u32 (M.s : Int), .int .u32 (M.d : Int), .int .u16 (M.p : Int), .int .u16 (M.q : Int), .int .u8 (M.r : Int)] 34)) := blk_on (blk_alloc Hn.out _) hb11
          have Gs : Hid (w11.heap[w8.heap.size]? = some (.cells #[.int .u32 (L.s : Int), .int .u32 (L.d : Int), .int .u16 (L.p : Int), .int .u16 (L.q : Int), .int .u8 (L.r : Int)] 34)) := blk_on (blk_alloc Hs.out _) hb11
          have Gy : Hid (w11.heap[w9.heap.size]? = some (.cells #[.int .u32 (X.a.1 : Int), .int .u32 (X.a.2 : Int), .int .u32 (X.b.1 : Int), .int .u32 (X.b.2 : Int), .int .u16 (X.c.1 : Int), .int .u16 (X.c.2 : Int), .int .u16 (X.d.1 : Int), .int .u16 (X.d.2 : Int), .int .u8 (X.m.1 : Int), .int .u8 (X.m.2 : Int)] 41)) := blk_on (blk_alloc Hy.out _) hb11
          have Gx : Hid (w11.heap[w10.heap.size]? = some (.cells #[.int .u32 (L.s : Int), .int .u32 (L.d : Int), .int .u16 (L.p : Int), .int .u16 (L.q : Int), .int .u8 (L.r : Int)] 34)) := blk_on (blk_new w10 (.cells #[.int .u32 (L.s : Int), .int .u32 (L.d : Int), .int .u16 (L.p : Int), .int .u16 (L.q : Int), .int .u8 (L.r : Int)] 34)) hb11
          have HO11 : Hid (w10.heap.size < w11.heap.size) := blk_lt Gx.out
          have hbl11 : Hid (Below w.heap.size w w11) := bel_step hbl10.out (bel_a1 _ _) hb11
          clear HA HB Hh Hm Hn Hs Hy lA nA lB nB lh nh lm nm ln nn ls ns ly ny hb11 hbl10
          have HA := GA
          clear GA
          have HB := GB
          clear GB
          have Hh := Gh
          clear Gh
          have Hm := Gm
          clear Gm
          have Hn := Gn
          clear Gn
          have Hs := Gs
          clear Gs
          have Hy := Gy
          clear Gy
          have Hx := Gx
          clear Gx
          have lA := blk_lt HA.out
          have nA : ¬ w.heap.size = w11.heap.size := by omega
          have lB := blk_lt HB.out
          have nB : ¬ w.heap.size + 1 = w11.heap.size := by omega
          have lh := blk_lt Hh.out
          have nh : ¬ w.heap.size + 1 + 1 = w11.heap.size := by omega
          have lm := blk_lt Hm.out
          have nm : ¬ w1.heap.size = w11.heap.size := by omega
          have ln := blk_lt Hn.out
          have nn : ¬ w7.heap.size = w11.heap.size := by omega
          have ls := blk_lt Hs.out
          have ns : ¬ w8.heap.size = w11.heap.size := by omega
          have ly := blk_lt Hy.out
          have ny : ¬ w9.heap.size = w11.heap.size := by omega
          have lx := blk_lt Hx.out
          have nx : ¬ w10.heap.size = w11.heap.size := by omega
          obtain ⟨n_0, n_1, n_2, n_3, n_4⟩ := blk5 Hn.out
          obtain ⟨m_0, m_1, m_2, m_3, m_4⟩ := blk5 Hm.out
          obtain ⟨s_0, s_1, s_2, s_3, s_4⟩ := blk5 Hs.out
          obtain ⟨x_0, x_1, x_2, x_3, x_4⟩ := blk5 Hx.out
          go_wp2_with (fail)
          go_ret
          exact ⟨rfl, hbl11.out⟩

set_option maxRecDepth 100000 in
theorem ruleLeast_lifted (os : Os) (started : os.Started) (H : Type) (enc : TypeId × Value → H) :
    ReturnsInHanded {} Tryz.checked os 7 .any (Rows.ruleLeastSpec.pre6 enc Tryz.prog Tryz.f7 Rows.ruleLeastRow.domain false) (Rows.ruleLeastSpec.post enc Tryz.prog Tryz.f7 false true false false) := by
  refine returnsInHanded_of_change (C := Tryz.checked) own started (by kernel_rfl) Tryz.func7
    (ChangeSpec.witness6 (enc := enc) (C := Tryz.checked) false ⟨#[], #[.agg #[.int .i64 0, .int .u32 0, .int .i64 0, .int .u32 0, .int .i64 0, .int .u16 0, .int .u16 0, .int .u16 0, .int .u16 0, .int .u8 0, .int .u8 0, .int .i64 0], .agg #[.int .i64 0, .int .u32 0, .int .i64 0, .int .u32 0, .int .i64 0, .int .u16 0, .int .u16 0, .int .u16 0, .int .u16 0, .int .u8 0, .int .u8 0, .int .i64 0], .agg #[.int .u32 0, .int .u32 0, .int .u16 0, .int .u16 0, .int .u8 0]], []⟩ 8 (by kernel_rfl) (by kernel_rfl) (by kernel_rfl) (by kernel_rfl)) ?_
  intro W base args ds gs before hval0 hW hcnd _
  have hval : ∀ (j : Nat) t v, Tryz.f7.params[j]? = some t → args[j]? = some v → Value.okWide Tryz.prog W .any base t v := hval0
  have hW' := hW
  obtain ⟨p, q, hA0, hV, rfl, hfz, hnd⟩ := hW
  have hA : DataW.TrodAll enc Tryz.prog W 0 (fun _ => true) true Tryz.f7.params.toList args.toList ds p := hA0
  rw [Tryz.params7] at hA hval
  obtain ⟨v0, vs0, d0, ds0, p0, q0, hargs, rfl, rfl, h0, r0⟩ := trodAll_cons hA
  obtain ⟨v1, vs1, d1, ds1, p1, q1, rfl, rfl, rfl, h1, r1⟩ := trodAll_cons r0
  obtain ⟨v2, vs2, d2, ds2, p2, q2, rfl, rfl, rfl, h2, r2⟩ := trodAll_cons r1
  obtain ⟨rfl, rfl, rfl⟩ := trodAll_nil r2
  obtain rfl : args = #[v0, v1, v2] := by cases args; simp_all
  obtain ⟨rfl, rfl⟩ := trodVars_none hV
  obtain ⟨g0, rfl, rfl, rfl, o0⟩ := open_ru (hval 0 32 v0 rfl rfl) h0
  obtain ⟨g1, rfl, rfl, rfl, o1⟩ := open_ru (hval 1 32 v1 rfl rfl) h1
  obtain ⟨g2, rfl, rfl, rfl, o2⟩ := open_hd (hval 2 34 v2 rfl rfl) h2
  clear hA0 hval0
  simp only [List.append_nil] at hW'
  refine (ruleLeast_walk g0 o0 g1 o1 g2 o2 W ).mono fun e W' ⟨he, bel⟩ => ?_
  subst he
  exact ⟨_, rfl, _, _, _, [], _, [], hW', trodAll_mk1 (shut_bool Tryz.underlying4 _), (trodAll_cons_mk (shut_ru o0) (trodAll_cons_mk (shut_ru o1) (trodAll_cons_mk (shut_hd o2) trodAll_mk0))), rfl, bel.frame _, fun h => by cases h⟩

/-- The given statement. -/
theorem ruleLeast_holds : Rows.RuleLeastSaid :=
  OpenClaim.holds_of_wide 7 Tryz.f7 rfl rfl rfl rfl rfl rfl rfl ⟨rfl, rfl, rfl, rfl, rfl⟩ rfl rfl rfl rfl rfl (by kernel_rfl) Tryz.func7 (by kernel_rfl)
    (of_decide_eq_true (by kernel_rfl)) (by unfold Func.isWrapper; first | (rw [if_pos (by decide +kernel)]; kernel_rfl) | (rw [if_neg (by decide +kernel)]; exact ⟨rfl, rfl⟩))
    (fun os started H enc _ => ruleLeast_lifted os started H enc)
#print axioms ruleLeast_holds
end Go.Proofs.YtebljklpkoheaaaGreat
