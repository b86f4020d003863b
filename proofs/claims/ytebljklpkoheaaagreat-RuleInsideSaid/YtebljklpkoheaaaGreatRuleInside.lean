/-
  For any three rules and a header: what lies within another rule is matched there, Within is an order of sets, a rule within another has no greater count, and the same one just if the other lies within it, too (P8.6); and the examples of the document hold.
  Conditions: none; the law holds for every input.
-/
import Derived.Test.YtebljklpkoheaaaGreatRuAw
import Derived.Test.YtebljklpkoheaaaGreatRuFrame
namespace Go.Proofs.YtebljklpkoheaaaGreat
open Go.ChangeShapes Go.WideShapes Go.ChangeAt Go.RowKit Go.Joins
set_option linter.unusedVariables false
set_option linter.unusedSimpArgs false

theorem ord_five (p q r s : Nat) : ((r : Int) < p ∧ ¬ (p : Int) = r) ∨ (p = r ∧ (s : Int) < q ∧ ¬ (q : Int) = s) ∨ (p = r ∧ q = s) ∨ (p = r ∧ ¬ (s : Int) < q ∧ ¬ (q : Int) = s) ∨ (¬ (r : Int) < p ∧ ¬ (p : Int) = r) := by omega
theorem ord_three {m n : Nat} {ba : Bool} (h : m ≤ n) (he : m = n ↔ ba = true) : (hiW m = hiW n ∧ loW m = loW n ∧ ba = true) ∨ ((¬ ((hiW n : Nat) : Int) < ((hiW m : Nat) : Int)) ∧ (¬ ((hiW m : Nat) : Int) = ((hiW n : Nat) : Int)) ∧ ba = false) ∨ (hiW m = hiW n ∧ ((¬ ((loW n : Nat) : Int) < ((loW m : Nat) : Int)) ∧ (¬ ((loW m : Nat) : Int) = ((loW n : Nat) : Int))) ∧ ba = false) := by
  by_cases e : m = n
  · exact .inl ⟨by rw [e], by rw [e], he.1 e⟩
  · have hb : ba = false := by cases ba; rfl; exact absurd (he.2 rfl) e
    rw [hb]
    by_cases e1 : hiW m = hiW n
    · refine .inr (.inr ⟨e1, ⟨?_, ?_⟩, rfl⟩) <;> (unfold hiW loW at *; omega)
    · refine .inr (.inl ⟨?_, ?_, rfl⟩) <;> (unfold hiW at *; omega)
set_option maxRecDepth 20000 in
set_option maxHeartbeats 8000000 in
theorem ruleInside_walk (A : Ru) (bA : BdR A) (B : Ru) (bB : BdR B) (C : Ru) (bC : BdR C) (h : Hd) (oh : OkH h) (w : World) :
    Calls Tryz.prog 8 #[.agg #[.int .i64 A.i, .int .u32 (A.s : Int), .int .i64 A.sl, .int .u32 (A.d : Int), .int .i64 A.dl, .int .u16 (A.p.1 : Int), .int .u16 (A.p.2 : Int), .int .u16 (A.q.1 : Int), .int .u16 (A.q.2 : Int), .int .u8 (A.m.1 : Int), .int .u8 (A.m.2 : Int), .int .i64 A.act], .agg #[.int .i64 B.i, .int .u32 (B.s : Int), .int .i64 B.sl, .int .u32 (B.d : Int), .int .i64 B.dl, .int .u16 (B.p.1 : Int), .int .u16 (B.p.2 : Int), .int .u16 (B.q.1 : Int), .int .u16 (B.q.2 : Int), .int .u8 (B.m.1 : Int), .int .u8 (B.m.2 : Int), .int .i64 B.act], .agg #[.int .i64 C.i, .int .u32 (C.s : Int), .int .i64 C.sl, .int .u32 (C.d : Int), .int .i64 C.dl, .int .u16 (C.p.1 : Int), .int .u16 (C.p.2 : Int), .int .u16 (C.q.1 : Int), .int .u16 (C.q.2 : Int), .int .u8 (C.m.1 : Int), .int .u8 (C.m.2 : Int), .int .i64 C.act], .agg #[.int .u32 (h.s : Int), .int .u32 (h.d : Int), .int .u16 (h.p : Int), .int .u16 (h.q : Int), .int .u8 (h.r : Int)]] w fun e w' => e = .returned (.bool true) ∧ Below w.heap.size w w' := by
  have kAB := fun W => withinRC A B W bA bB
  have kBA := fun W => withinRC B A W bB bA
  have kBC := fun W => withinRC B C W bB bC
  have kAC := fun W => withinRC A C W bA bC
  have hm1 := fun W => matchC A h W bA oh
  have hm2 := fun W => matchC B h W bB oh
  have hA := fun W => countRC A W bA
  have hB := fun W => countRC B W bB
  cases hab : wiR A B
  · rw [hab] at kAB
    generalize hiW (cntR A) = p at *
    generalize loW (cntR A) = q at *
    generalize hiW (cntR B) = r at *
    generalize loW (cntR B) = s at *
    generalize wiR B A = ba at *
    clear bA bB bC oh hab kBC kAC hm1 hm2
    go_enter Tryz.func8, Tryz.ntmps8
    go_wp2_with (fail)
    refine (kAB _).mono ?_
    rintro e w1 ⟨rfl, hb1⟩
    have GA : Hid (w1.heap[w.heap.size]? = some (.cells #[.int .i64 A.i, .int .u32 (A.s : Int), .int .i64 A.sl, .int .u32 (A.d : Int), .int .i64 A.dl, .int .u16 (A.p.1 : Int), .int .u16 (A.p.2 : Int), .int .u16 (A.q.1 : Int), .int .u16 (A.q.2 : Int), .int .u8 (A.m.1 : Int), .int .u8 (A.m.2 : Int), .int .i64 A.act] 32)) := blk_on (blk_alloc (blk_alloc (blk_alloc (blk_new w (.cells #[.int .i64 A.i, .int .u32 (A.s : Int), .int .i64 A.sl, .int .u32 (A.d : Int), .int .i64 A.dl, .int .u16 (A.p.1 : Int), .int .u16 (A.p.2 : Int), .int .u16 (A.q.1 : Int), .int .u16 (A.q.2 : Int), .int .u8 (A.m.1 : Int), .int .u8 (A.m.2 : Int), .int .i64 A.act] 32)) _) _) _) hb1
    have GB : Hid (w1.heap[w.heap.size + 1]? = some (.cells #[.int .i64 B.i, .int .u32 (B.s : Int), .int .i64 B.sl, .int .u32 (B.d : Int), .int .i64 B.dl, .int .u16 (B.p.1 : Int), .int .u16 (B.p.2 : Int), .int .u16 (B.q.1 : Int), .int .u16 (B.q.2 : Int), .int .u8 (B.m.1 : Int), .int .u8 (B.m.2 : Int), .int .i64 B.act] 32)) := blk_on (blk_alloc (blk_alloc (by simpa using blk_new (w.alloc (.cells #[.int .i64 A.i, .int .u32 (A.s : Int), .int .i64 A.sl, .int .u32 (A.d : Int), .int .i64 A.dl, .int .u16 (A.p.1 : Int), .int .u16 (A.p.2 : Int), .int .u16 (A.q.1 : Int), .int .u16 (A.q.2 : Int), .int .u8 (A.m.1 : Int), .int .u8 (A.m.2 : Int), .int .i64 A.act] 32)) (.cells #[.int .i64 B.i, .int .u32 (B.s : Int), .int .i64 B.sl, .int .u32 (B.d : Int), .int .i64 B.dl, .int .u16 (B.p.1 : Int), .int .u16 (B.p.2 : Int), .int .u16 (B.q.1 : Int), .int .u16 (B.q.2 : Int), .int .u8 (B.m.1 : Int), .int .u8 (B.m.2 : Int), .int .i64 B.act] 32)) _) _) hb1
    have GC : Hid (w1.heap[w.heap.size + 1 + 1]? = some (.cells #[.int .i64 C.i, .int .u32 (C.s : Int), .int .i64 C.sl, .int .u32 (C.d : Int), .int .i64 C.dl, .int .u16 (C.p.1 : Int), .int .u16 (C.p.2 : Int), .int .u16 (C.q.1 : Int), .int .u16 (C.q.2 : Int), .int .u8 (C.m.1 : Int), .int .u8 (C.m.2 : Int), .int .i64 C.act] 32)) := blk_on (blk_alloc (by simpa using blk_new ((w.alloc (.cells #[.int .i64 A.i, .int .u32 (A.s : Int), .int .i64 A.sl, .int .u32 (A.d : Int), .int .i64 A.dl, .int .u16 (A.p.1 : Int), .int .u16 (A.p.2 : Int), .int .u16 (A.q.1 : Int), .int .u16 (A.q.2 : Int), .int .u8 (A.m.1 : Int), .int .u8 (A.m.2 : Int), .int .i64 A.act] 32)).alloc (.cells #[.int .i64 B.i, .int .u32 (B.s : Int), .int .i64 B.sl, .int .u32 (B.d : Int), .int .i64 B.dl, .int .u16 (B.p.1 : Int), .int .u16 (B.p.2 : Int), .int .u16 (B.q.1 : Int), .int .u16 (B.q.2 : Int), .int .u8 (B.m.1 : Int), .int .u8 (B.m.2 : Int), .int .i64 B.act] 32)) (.cells #[.int .i64 C.i, .int .u32 (C.s : Int), .int .i64 C.sl, .int .u32 (C.d : Int), .int .i64 C.dl, .int .u16 (C.p.1 : Int), .int .u16 (C.p.2 : Int), .int .u16 (C.q.1 : Int), .int .u16 (C.q.2 : Int), .int .u8 (C.m.1 : Int), .int .u8 (C.m.2 : Int), .int .i64 C.act] 32)) _) hb1
    have Gh : Hid (w1.heap[w.heap.size + 1 + 1 + 1]? = some (.cells #[.int .u32 (h.s : Int), .int .u32 (h.d : Int), .int .u16 (h.p : Int), .int .u16 (h.q : Int), .int .u8 (h.r : Int)] 34)) := blk_on (by simpa using blk_new (((w.alloc (.cells #[.int .i64 A.i, .int .u32 (A.s : Int), .int .i64 A.sl, .int .u32 (A.d : Int), .int .i64 A.dl, .int .u16 (A.p.1 : Int), .int .u16 (A.p.2 : Int), .int .u16 (A.q.1 : Int), .int .u16 (A.q.2 : Int), .int .u8 (A.m.1 : Int), .int .u8 (A.m.2 : Int), .int .i64 A.act] 32)).alloc (.cells #[.int .i64 B.i, .int .u32 (B.s : Int), .int .i64 B.sl, .int .u32 (B.d : Int), .int .i64 B.dl, .int .u16 (B.p.1 : Int), .int .u16 (B.p.2 : Int), .int .u16 (B.q.1 : Int), .int .u16 (B.q.2 : Int), .int .u8 (B.m.1 : Int), .int .u8 (B.m.2 : Int), .int .i64 B.act] 32)).alloc (.cells #[.int .i64 C.i, .int .u32 (C.s : Int), .int .i64 C.sl, .int .u32 (C.d : Int), .int .i64 C.dl, .int .u16 (C.p.1 : Int), .int .u16 (C.p.2 : Int), .int .u16 (C.q.1 : Int), .int .u16 (C.q.2 : Int), .int .u8 (C.m.1 : Int), .int .u8 (C.m.2 : Int), .int .i64 C.act] 32)) (.cells #[.int .u32 (h.s : Int), .int .u32 (h.d : Int), .int .u16 (h.p : Int), .int .u16 (h.q : Int), .int .u8 (h.r : Int)] 34)) hb1
    have HO1 : Hid (w.heap.size + 1 + 1 + 1 < w1.heap.size) := blk_lt Gh.out
    have hbl1 : Hid (Below w.heap.size w w1) := bel_step (Below.refl _ _) (bel_a4 _ _ _ _ _) hb1
    clear hb1
    have HA := GA
    clear GA
    have HB := GB
    clear GB
    have HC := GC
    clear GC
    have Hh := Gh
    clear Gh
    have lA := blk_lt HA.out
    have nA : ¬ w.heap.size = w1.heap.size := by omega
    have lB := blk_lt HB.out
    have nB : ¬ w.heap.size + 1 = w1.heap.size := by omega
    have lC := blk_lt HC.out
    have nC : ¬ w.heap.size + 1 + 1 = w1.heap.size := by omega
    have lh := blk_lt Hh.out
    have nh : ¬ w.heap.size + 1 + 1 + 1 = w1.heap.size := by omega
    obtain ⟨A_0, A_1, A_2, A_3, A_4, A_5, A_6, A_7, A_8, A_9, A_10, A_11⟩ := blk12 HA.out
    obtain ⟨B_0, B_1, B_2, B_3, B_4, B_5, B_6, B_7, B_8, B_9, B_10, B_11⟩ := blk12 HB.out
    go_wp2_with (fail)
    refine (kBA _).mono ?_
    rintro e w2 ⟨rfl, hb2⟩
    have GA : Hid (w2.heap[w.heap.size]? = some (.cells #[.int .i64 A.i, .int .u32 (A.s : Int), .int .i64 A.sl, .int .u32 (A.d : Int), .int .i64 A.dl, .int .u16 (A.p.1 : Int), .int .u16 (A.p.2 : Int), .int .u16 (A.q.1 : Int), .int .u16 (A.q.2 : Int), .int .u8 (A.m.1 : Int), .int .u8 (A.m.2 : Int), .int .i64 A.act] 32)) := blk_on HA.out hb2
    have GB : Hid (w2.heap[w.heap.size + 1]? = some (.cells #[.int .i64 B.i, .int .u32 (B.s : Int), .int .i64 B.sl, .int .u32 (B.d : Int), .int .i64 B.dl, .int .u16 (B.p.1 : Int), .int .u16 (B.p.2 : Int), .int .u16 (B.q.1 : Int), .int .u16 (B.q.2 : Int), .int .u8 (B.m.1 : Int), .int .u8 (B.m.2 : Int), .int .i64 B.act] 32)) := blk_on HB.out hb2
    have GC : Hid (w2.heap[w.heap.size + 1 + 1]? = some (.cells #[.int .i64 C.i, .int .u32 (C.s : Int), .int .i64 C.sl, .int .u32 (C.d : Int), .int .i64 C.dl, .int .u16 (C.p.1 : Int), .int .u16 (C.p.2 : Int), .int .u16 (C.q.1 : Int), .int .u16 (C.q.2 : Int), .int .u8 (C.m.1 : Int), .int .u8 (C.m.2 : Int), .int .i64 C.act] 32)) := blk_on HC.out hb2
    have Gh : Hid (w2.heap[w.heap.size + 1 + 1 + 1]? = some (.cells #[.int .u32 (h.s : Int), .int .u32 (h.d : Int), .int .u16 (h.p : Int), .int .u16 (h.q : Int), .int .u8 (h.r : Int)] 34)) := blk_on Hh.out hb2
    have hbl2 : Hid (Below w.heap.size w w2) := bel_step hbl1.out (bel_a0 _) hb2
    clear HA HB HC Hh A_0 A_1 A_2 A_3 A_4 A_5 A_6 A_7 A_8 A_9 A_10 A_11 B_0 B_1 B_2 B_3 B_4 B_5 B_6 B_7 B_8 B_9 B_10 B_11 lA nA lB nB lC nC lh nh hb2 hbl1
    have HA := GA
    clear GA
    have HB := GB
    clear GB
    have HC := GC
    clear GC
    have Hh := Gh
    clear Gh
    have lA := blk_lt HA.out
    have nA : ¬ w.heap.size = w2.heap.size := by omega
    have lB := blk_lt HB.out
    have nB : ¬ w.heap.size + 1 = w2.heap.size := by omega
    have lC := blk_lt HC.out
    have nC : ¬ w.heap.size + 1 + 1 = w2.heap.size := by omega
    have lh := blk_lt Hh.out
    have nh : ¬ w.heap.size + 1 + 1 + 1 = w2.heap.size := by omega
    obtain ⟨A_0, A_1, A_2, A_3, A_4, A_5, A_6, A_7, A_8, A_9, A_10, A_11⟩ := blk12 HA.out
    go_wp2_with (fail)
    refine (hA _).mono ?_
    rintro e w3 ⟨rfl, hb3⟩
    have GA : Hid (w3.heap[w.heap.size]? = some (.cells #[.int .i64 A.i, .int .u32 (A.s : Int), .int .i64 A.sl, .int .u32 (A.d : Int), .int .i64 A.dl, .int .u16 (A.p.1 : Int), .int .u16 (A.p.2 : Int), .int .u16 (A.q.1 : Int), .int .u16 (A.q.2 : Int), .int .u8 (A.m.1 : Int), .int .u8 (A.m.2 : Int), .int .i64 A.act] 32)) := blk_on HA.out hb3
    have GB : Hid (w3.heap[w.heap.size + 1]? = some (.cells #[.int .i64 B.i, .int .u32 (B.s : Int), .int .i64 B.sl, .int .u32 (B.d : Int), .int .i64 B.dl, .int .u16 (B.p.1 : Int), .int .u16 (B.p.2 : Int), .int .u16 (B.q.1 : Int), .int .u16 (B.q.2 : Int), .int .u8 (B.m.1 : Int), .int .u8 (B.m.2 : Int), .int .i64 B.act] 32)) := blk_on HB.out hb3
    have GC : Hid (w3.heap[w.heap.size + 1 + 1]? = some (.cells #[.int .i64 C.i, .int .u32 (C.s : Int), .int .i64 C.sl, .int .u32 (C.d : Int), .int .i64 C.dl, .int .u16 (C.p.1 : Int), .int .u16 (C.p.2 : Int), .int .u16 (C.q.1 : Int), .int .u16 (C.q.2 : Int), .int .u8 (C.m.1 : Int), .int .u8 (C.m.2 : Int), .int .i64 C.act] 32)) := blk_on HC.out hb3
    have Gh : Hid (w3.heap[w.heap.size + 1 + 1 + 1]? = some (.cells #[.int .u32 (h.s : Int), .int .u32 (h.d : Int), .int .u16 (h.p : Int), .int .u16 (h.q : Int), .int .u8 (h.r : Int)] 34)) := blk_on Hh.out hb3
    have hbl3 : Hid (Below w.heap.size w w3) := bel_step hbl2.out (bel_a0 _) hb3
    clear HA HB HC Hh A_0 A_1 A_2 A_3 A_4 A_5 A_6 A_7 A_8 A_9 A_10 A_11 lA nA lB nB lC nC lh nh hb3 hbl2
    have HA := GA
    clear GA
    have HB := GB
    clear GB
    have HC := GC
    clear GC
    have Hh := Gh
    clear Gh
    have lA := blk_lt HA.out
    have nA : ¬ w.heap.size = w3.heap.size := by omega
    have lB := blk_lt HB.out
    have nB : ¬ w.heap.size + 1 = w3.heap.size := by omega
    have lC := blk_lt HC.out
    have nC : ¬ w.heap.size + 1 + 1 = w3.heap.size := by omega
    have lh := blk_lt Hh.out
    have nh : ¬ w.heap.size + 1 + 1 + 1 = w3.heap.size := by omega
    obtain ⟨B_0, B_1, B_2, B_3, B_4, B_5, B_6, B_7, B_8, B_9, B_10, B_11⟩ := blk12 HB.out
    go_wp2_with (fail)
    refine (hB _).mono ?_
    rintro e w4 ⟨rfl, hb4⟩
    have GA : Hid (w4.heap[w.heap.size]? = some (.cells #[.int .i64 A.i, .int .u32 (A.s : Int), .int .i64 A.sl, .int .u32 (A.d : Int), .int .i64 A.dl, .int .u16 (A.p.1 : Int), .int .u16 (A.p.2 : Int), .int .u16 (A.q.1 : Int), .int .u16 (A.q.2 : Int), .int .u8 (A.m.1 : Int), .int .u8 (A.m.2 : Int), .int .i64 A.act] 32)) := blk_on HA.out hb4
    have GB : Hid (w4.heap[w.heap.size + 1]? = some (.cells #[.int .i64 B.i, .int .u32 (B.s : Int), .int .i64 B.sl, .int .u32 (B.d : Int), .int .i64 B.dl, .int .u16 (B.p.1 : Int), .int .u16 (B.p.2 : Int), .int .u16 (B.q.1 : Int), .int .u16 (B.q.2 : Int), .int .u8 (B.m.1 : Int), .int .u8 (B.m.2 : Int), .int .i64 B.act] 32)) := blk_on HB.out hb4
    have GC : Hid (w4.heap[w.heap.size + 1 + 1]? = some (.cells #[.int .i64 C.i, .int .u32 (C.s : Int), .int .i64 C.sl, .int .u32 (C.d : Int), .int .i64 C.dl, .int .u16 (C.p.1 : Int), .int .u16 (C.p.2 : Int), .int .u16 (C.q.1 : Int), .int .u16 (C.q.2 : Int), .int .u8 (C.m.1 : Int), .int .u8 (C.m.2 : Int), .int .i64 C.act] 32)) := blk_on HC.out hb4
    have Gh : Hid (w4.heap[w.heap.size + 1 + 1 + 1]? = some (.cells #[.int .u32 (h.s : Int), .int .u32 (h.d : Int), .int .u16 (h.p : Int), .int .u16 (h.q : Int), .int .u8 (h.r : Int)] 34)) := blk_on Hh.out hb4
    have hbl4 : Hid (Below w.heap.size w w4) := bel_step hbl3.out (bel_a0 _) hb4
    clear HA HB HC Hh B_0 B_1 B_2 B_3 B_4 B_5 B_6 B_7 B_8 B_9 B_10 B_11 lA nA lB nB lC nC lh nh hb4 hbl3
    have HA := GA
    clear GA
    have HB := GB
    clear GB
    have HC := GC
    clear GC
    have Hh := Gh
    clear Gh
    have lA := blk_lt HA.out
    have nA : ¬ w.heap.size = w4.heap.size := by omega
    have lB := blk_lt HB.out
    have nB : ¬ w.heap.size + 1 = w4.heap.size := by omega
    have lC := blk_lt HC.out
    have nC : ¬ w.heap.size + 1 + 1 = w4.heap.size := by omega
    have lh := blk_lt Hh.out
    have nh : ¬ w.heap.size + 1 + 1 + 1 = w4.heap.size := by omega
    rcases ord_five p q r s with ⟨o1, o2⟩ | ⟨o1, o2, o3⟩ | ⟨o1, o2⟩ | ⟨o1, o2, o3⟩ | ⟨o1, o2⟩
    · skip
      go_wp2_with (fail)
      refine (awakeR _).mono ?_
      rintro e w5 ⟨rfl, hb5⟩
      have GA : Hid (w5.heap[w.heap.size]? = some (.cells #[.int .i64 A.i, .int .u32 (A.s : Int), .int .i64 A.sl, .int .u32 (A.d : Int), .int .i64 A.dl, .int .u16 (A.p.1 : Int), .int .u16 (A.p.2 : Int), .int .u16 (A.q.1 : Int), .int .u16 (A.q.2 : Int), .int .u8 (A.m.1 : Int), .int .u8 (A.m.2 : Int), .int .i64 A.act] 32)) := blk_on HA.out hb5
      have GB : Hid (w5.heap[w.heap.size + 1]? = some (.cells #[.int .i64 B.i, .int .u32 (B.s : Int), .int .i64 B.sl, .int .u32 (B.d : Int), .int .i64 B.dl, .int .u16 (B.p.1 : Int), .int .u16 (B.p.2 : Int), .int .u16 (B.q.1 : Int), .int .u16 (B.q.2 : Int), .int .u8 (B.m.1 : Int), .int .u8 (B.m.2 : Int), .int .i64 B.act] 32)) := blk_on HB.out hb5
      have GC : Hid (w5.heap[w.heap.size + 1 + 1]? = some (.cells #[.int .i64 C.i, .int .u32 (C.s : Int), .int .i64 C.sl, .int .u32 (C.d : Int), .int .i64 C.dl, .int .u16 (C.p.1 : Int), .int .u16 (C.p.2 : Int), .int .u16 (C.q.1 : Int), .int .u16 (C.q.2 : Int), .int .u8 (C.m.1 : Int), .int .u8 (C.m.2 : Int), .int .i64 C.act] 32)) := blk_on HC.out hb5
      have Gh : Hid (w5.heap[w.heap.size + 1 + 1 + 1]? = some (.cells #[.int .u32 (h.s : Int), .int .u32 (h.d : Int), .int .u16 (h.p : Int), .int .u16 (h.q : Int), .int .u8 (h.r : Int)] 34)) := blk_on Hh.out hb5
      have hbl5 : Hid (Below w.heap.size w w5) := bel_step hbl4.out (bel_a0 _) hb5
      clear HA HB HC Hh lA nA lB nB lC nC lh nh hb5 hbl4
      have HA := GA
      clear GA
      have HB := GB
      clear GB
      have HC := GC
      clear GC
      have Hh := Gh
      clear Gh
      have lA := blk_lt HA.out
      have nA : ¬ w.heap.size = w5.heap.size := by omega
      have lB := blk_lt HB.out
      have nB : ¬ w.heap.size + 1 = w5.heap.size := by omega
      have lC := blk_lt HC.out
      have nC : ¬ w.heap.size + 1 + 1 = w5.heap.size := by omega
      have lh := blk_lt Hh.out
      have nh : ¬ w.heap.size + 1 + 1 + 1 = w5.heap.size := by omega
      go_wp2_with (fail)
      go_ret
      exact ⟨rfl, hbl5.out⟩
    · subst o1
      go_wp2_with (fail)
      refine (awakeR _).mono ?_
      rintro e w5 ⟨rfl, hb5⟩
      have GA : Hid (w5.heap[w.heap.size]? = some (.cells #[.int .i64 A.i, .int .u32 (A.s : Int), .int .i64 A.sl, .int .u32 (A.d : Int), .int .i64 A.dl, .int .u16 (A.p.1 : Int), .int .u16 (A.p.2 : Int), .int .u16 (A.q.1 : Int), .int .u16 (A.q.2 : Int), .int .u8 (A.m.1 : Int), .int .u8 (A.m.2 : Int), .int .i64 A.act] 32)) := blk_on HA.out hb5
      have GB : Hid (w5.heap[w.heap.size + 1]? = some (.cells #[.int .i64 B.i, .int .u32 (B.s : Int), .int .i64 B.sl, .int .u32 (B.d : Int), .int .i64 B.dl, .int .u16 (B.p.1 : Int), .int .u16 (B.p.2 : Int), .int .u16 (B.q.1 : Int), .int .u16 (B.q.2 : Int), .int .u8 (B.m.1 : Int), .int .u8 (B.m.2 : Int), .int .i64 B.act] 32)) := blk_on HB.out hb5
      have GC : Hid (w5.heap[w.heap.size + 1 + 1]? = some (.cells #[.int .i64 C.i, .int .u32 (C.s : Int), .int .i64 C.sl, .int .u32 (C.d : Int), .int .i64 C.dl, .int .u16 (C.p.1 : Int), .int .u16 (C.p.2 : Int), .int .u16 (C.q.1 : Int), .int .u16 (C.q.2 : Int), .int .u8 (C.m.1 : Int), .int .u8 (C.m.2 : Int), .int .i64 C.act] 32)) := blk_on HC.out hb5
      have Gh : Hid (w5.heap[w.heap.size + 1 + 1 + 1]? = some (.cells #[.int .u32 (h.s : Int), .int .u32 (h.d : Int), .int .u16 (h.p : Int), .int .u16 (h.q : Int), .int .u8 (h.r : Int)] 34)) := blk_on Hh.out hb5
      have hbl5 : Hid (Below w.heap.size w w5) := bel_step hbl4.out (bel_a0 _) hb5
      clear HA HB HC Hh lA nA lB nB lC nC lh nh hb5 hbl4
      have HA := GA
      clear GA
      have HB := GB
      clear GB
      have HC := GC
      clear GC
      have Hh := Gh
      clear Gh
      have lA := blk_lt HA.out
      have nA : ¬ w.heap.size = w5.heap.size := by omega
      have lB := blk_lt HB.out
      have nB : ¬ w.heap.size + 1 = w5.heap.size := by omega
      have lC := blk_lt HC.out
      have nC : ¬ w.heap.size + 1 + 1 = w5.heap.size := by omega
      have lh := blk_lt Hh.out
      have nh : ¬ w.heap.size + 1 + 1 + 1 = w5.heap.size := by omega
      go_wp2_with (fail)
      go_ret
      exact ⟨rfl, hbl5.out⟩
    · subst o1 o2
      go_wp2_with (fail)
      refine (awakeR _).mono ?_
      rintro e w5 ⟨rfl, hb5⟩
      have GA : Hid (w5.heap[w.heap.size]? = some (.cells #[.int .i64 A.i, .int .u32 (A.s : Int), .int .i64 A.sl, .int .u32 (A.d : Int), .int .i64 A.dl, .int .u16 (A.p.1 : Int), .int .u16 (A.p.2 : Int), .int .u16 (A.q.1 : Int), .int .u16 (A.q.2 : Int), .int .u8 (A.m.1 : Int), .int .u8 (A.m.2 : Int), .int .i64 A.act] 32)) := blk_on HA.out hb5
      have GB : Hid (w5.heap[w.heap.size + 1]? = some (.cells #[.int .i64 B.i, .int .u32 (B.s : Int), .int .i64 B.sl, .int .u32 (B.d : Int), .int .i64 B.dl, .int .u16 (B.p.1 : Int), .int .u16 (B.p.2 : Int), .int .u16 (B.q.1 : Int), .int .u16 (B.q.2 : Int), .int .u8 (B.m.1 : Int), .int .u8 (B.m.2 : Int), .int .i64 B.act] 32)) := blk_on HB.out hb5
      have GC : Hid (w5.heap[w.heap.size + 1 + 1]? = some (.cells #[.int .i64 C.i, .int .u32 (C.s : Int), .int .i64 C.sl, .int .u32 (C.d : Int), .int .i64 C.dl, .int .u16 (C.p.1 : Int), .int .u16 (C.p.2 : Int), .int .u16 (C.q.1 : Int), .int .u16 (C.q.2 : Int), .int .u8 (C.m.1 : Int), .int .u8 (C.m.2 : Int), .int .i64 C.act] 32)) := blk_on HC.out hb5
      have Gh : Hid (w5.heap[w.heap.size + 1 + 1 + 1]? = some (.cells #[.int .u32 (h.s : Int), .int .u32 (h.d : Int), .int .u16 (h.p : Int), .int .u16 (h.q : Int), .int .u8 (h.r : Int)] 34)) := blk_on Hh.out hb5
      have hbl5 : Hid (Below w.heap.size w w5) := bel_step hbl4.out (bel_a0 _) hb5
      clear HA HB HC Hh lA nA lB nB lC nC lh nh hb5 hbl4
      have HA := GA
      clear GA
      have HB := GB
      clear GB
      have HC := GC
      clear GC
      have Hh := Gh
      clear Gh
      have lA := blk_lt HA.out
      have nA : ¬ w.heap.size = w5.heap.size := by omega
      have lB := blk_lt HB.out
      have nB : ¬ w.heap.size + 1 = w5.heap.size := by omega
      have lC := blk_lt HC.out
      have nC : ¬ w.heap.size + 1 + 1 = w5.heap.size := by omega
      have lh := blk_lt Hh.out
      have nh : ¬ w.heap.size + 1 + 1 + 1 = w5.heap.size := by omega
      go_wp2_with (fail)
      go_ret
      exact ⟨rfl, hbl5.out⟩
    · subst o1
      go_wp2_with (fail)
      refine (awakeR _).mono ?_
      rintro e w5 ⟨rfl, hb5⟩
      have GA : Hid (w5.heap[w.heap.size]? = some (.cells #[.int .i64 A.i, .int .u32 (A.s : Int), .int .i64 A.sl, .int .u32 (A.d : Int), .int .i64 A.dl, .int .u16 (A.p.1 : Int), .int .u16 (A.p.2 : Int), .int .u16 (A.q.1 : Int), .int .u16 (A.q.2 : Int), .int .u8 (A.m.1 : Int), .int .u8 (A.m.2 : Int), .int .i64 A.act] 32)) := blk_on HA.out hb5
      have GB : Hid (w5.heap[w.heap.size + 1]? = some (.cells #[.int .i64 B.i, .int .u32 (B.s : Int), .int .i64 B.sl, .int .u32 (B.d : Int), .int .i64 B.dl, .int .u16 (B.p.1 : Int), .int .u16 (B.p.2 : Int), .int .u16 (B.q.1 : Int), .int .u16 (B.q.2 : Int), .int .u8 (B.m.1 : Int), .int .u8 (B.m.2 : Int), .int .i64 B.act] 32)) := blk_on HB.out hb5
      have GC : Hid (w5.heap[w.heap.size + 1 + 1]? = some (.cells #[.int .i64 C.i, .int .u32 (C.s : Int), .int .i64 C.sl, .int .u32 (C.d : Int), .int .i64 C.dl, .int .u16 (C.p.1 : Int), .int .u16 (C.p.2 : Int), .int .u16 (C.q.1 : Int), .int .u16 (C.q.2 : Int), .int .u8 (C.m.1 : Int), .int .u8 (C.m.2 : Int), .int .i64 C.act] 32)) := blk_on HC.out hb5
      have Gh : Hid (w5.heap[w.heap.size + 1 + 1 + 1]? = some (.cells #[.int .u32 (h.s : Int), .int .u32 (h.d : Int), .int .u16 (h.p : Int), .int .u16 (h.q : Int), .int .u8 (h.r : Int)] 34)) := blk_on Hh.out hb5
      have hbl5 : Hid (Below w.heap.size w w5) := bel_step hbl4.out (bel_a0 _) hb5
      clear HA HB HC Hh lA nA lB nB lC nC lh nh hb5 hbl4
      have HA := GA
      clear GA
      have HB := GB
      clear GB
      have HC := GC
      clear GC
      have Hh := Gh
      clear Gh
      have lA := blk_lt HA.out
      have nA : ¬ w.heap.size = w5.heap.size := by omega
      have lB := blk_lt HB.out
      have nB : ¬ w.heap.size + 1 = w5.heap.size := by omega
      have lC := blk_lt HC.out
      have nC : ¬ w.heap.size + 1 + 1 = w5.heap.size := by omega
      have lh := blk_lt Hh.out
      have nh : ¬ w.heap.size + 1 + 1 + 1 = w5.heap.size := by omega
      go_wp2_with (fail)
      go_ret
      exact ⟨rfl, hbl5.out⟩
    · skip
      go_wp2_with (fail)
      refine (awakeR _).mono ?_
      rintro e w5 ⟨rfl, hb5⟩
      have GA : Hid (w5.heap[w.heap.size]? = some (.cells #[.int .i64 A.i, .int .u32 (A.s : Int), .int .i64 A.sl, .int .u32 (A.d : Int), .int .i64 A.dl, .int .u16 (A.p.1 : Int), .int .u16 (A.p.2 : Int), .int .u16 (A.q.1 : Int), .int .u16 (A.q.2 : Int), .int .u8 (A.m.1 : Int), .int .u8 (A.m.2 : Int), .int .i64 A.act] 32)) := blk_on HA.out hb5
      have GB : Hid (w5.heap[w.heap.size + 1]? = some (.cells #[.int .i64 B.i, .int .u32 (B.s : Int), .int .i64 B.sl, .int .u32 (B.d : Int), .int .i64 B.dl, .int .u16 (B.p.1 : Int), .int .u16 (B.p.2 : Int), .int .u16 (B.q.1 : Int), .int .u16 (B.q.2 : Int), .int .u8 (B.m.1 : Int), .int .u8 (B.m.2 : Int), .int .i64 B.act] 32)) := blk_on HB.out hb5
      have GC : Hid (w5.heap[w.heap.size + 1 + 1]? = some (.cells #[.int .i64 C.i, .int .u32 (C.s : Int), .int .i64 C.sl, .int .u32 (C.d : Int), .int .i64 C.dl, .int .u16 (C.p.1 : Int), .int .u16 (C.p.2 : Int), .int .u16 (C.q.1 : Int), .int .u16 (C.q.2 : Int), .int .u8 (C.m.1 : Int), .int .u8 (C.m.2 : Int), .int .i64 C.act] 32)) := blk_on HC.out hb5
      have Gh : Hid (w5.heap[w.heap.size + 1 + 1 + 1]? = some (.cells #[.int .u32 (h.s : Int), .int .u32 (h.d : Int), .int .u16 (h.p : Int), .int .u16 (h.q : Int), .int .u8 (h.r : Int)] 34)) := blk_on Hh.out hb5
      have hbl5 : Hid (Below w.heap.size w w5) := bel_step hbl4.out (bel_a0 _) hb5
      clear HA HB HC Hh lA nA lB nB lC nC lh nh hb5 hbl4
      have HA := GA
      clear GA
      have HB := GB
      clear GB
      have HC := GC
      clear GC
      have Hh := Gh
      clear Gh
      have lA := blk_lt HA.out
      have nA : ¬ w.heap.size = w5.heap.size := by omega
      have lB := blk_lt HB.out
      have nB : ¬ w.heap.size + 1 = w5.heap.size := by omega
      have lC := blk_lt HC.out
      have nC : ¬ w.heap.size + 1 + 1 = w5.heap.size := by omega
      have lh := blk_lt Hh.out
      have nh : ¬ w.heap.size + 1 + 1 + 1 = w5.heap.size := by omega
      go_wp2_with (fail)
      go_ret
      exact ⟨rfl, hbl5.out⟩
  · rw [hab] at kAB
    have HAC : Hid (wiR B C = true → wiR A C = true) := fun e => wiR_trans hab e
    have HMM : Hid (matchR A h = true → matchR B h = true) := fun e => wiR_has hab h e
    have HOR := ord_three (wiR_le bA bB hab) (wiR_same bA bB hab)
    replace HOR : Hid _ := HOR
    generalize hiW (cntR A) = p at *
    generalize loW (cntR A) = q at *
    generalize hiW (cntR B) = r at *
    generalize loW (cntR B) = s at *
    generalize wiR B A = ba at *
    generalize wiR B C = bc at *
    generalize wiR A C = ac at *
    generalize matchR A h = m1 at *
    generalize matchR B h = m2 at *
    clear bA bB bC oh hab
    go_enter Tryz.func8, Tryz.ntmps8
    go_wp2_with (fail)
    refine (kAB _).mono ?_
    rintro e w1 ⟨rfl, hb1⟩
    have GA : Hid (w1.heap[w.heap.size]? = some (.cells #[.int .i64 A.i, .int .u32 (A.s : Int), .int .i64 A.sl, .int .u32 (A.d : Int), .int .i64 A.dl, .int .u16 (A.p.1 : Int), .int .u16 (A.p.2 : Int), .int .u16 (A.q.1 : Int), .int .u16 (A.q.2 : Int), .int .u8 (A.m.1 : Int), .int .u8 (A.m.2 : Int), .int .i64 A.act] 32)) := blk_on (blk_alloc (blk_alloc (blk_alloc (blk_new w (.cells #[.int .i64 A.i, .int .u32 (A.s : Int), .int .i64 A.sl, .int .u32 (A.d : Int), .int .i64 A.dl, .int .u16 (A.p.1 : Int), .int .u16 (A.p.2 : Int), .int .u16 (A.q.1 : Int), .int .u16 (A.q.2 : Int), .int .u8 (A.m.1 : Int), .int .u8 (A.m.2 : Int), .int .i64 A.act] 32)) _) _) _) hb1
    have GB : Hid (w1.heap[w.heap.size + 1]? = some (.cells #[.int .i64 B.i, .int .u32 (B.s : Int), .int .i64 B.sl, .int .u32 (B.d : Int), .int .i64 B.dl, .int .u16 (B.p.1 : Int), .int .u16 (B.p.2 : Int), .int .u16 (B.q.1 : Int), .int .u16 (B.q.2 : Int), .int .u8 (B.m.1 : Int), .int .u8 (B.m.2 : Int), .int .i64 B.act] 32)) := blk_on (blk_alloc (blk_alloc (by simpa using blk_new (w.alloc (.cells #[.int .i64 A.i, .int .u32 (A.s : Int), .int .i64 A.sl, .int .u32 (A.d : Int), .int .i64 A.dl, .int .u16 (A.p.1 : Int), .int .u16 (A.p.2 : Int), .int .u16 (A.q.1 : Int), .int .u16 (A.q.2 : Int), .int .u8 (A.m.1 : Int), .int .u8 (A.m.2 : Int), .int .i64 A.act] 32)) (.cells #[.int .i64 B.i, .int .u32 (B.s : Int), .int .i64 B.sl, .int .u32 (B.d : Int), .int .i64 B.dl, .int .u16 (B.p.1 : Int), .int .u16 (B.p.2 : Int), .int .u16 (B.q.1 : Int), .int .u16 (B.q.2 : Int), .int .u8 (B.m.1 : Int), .int .u8 (B.m.2 : Int), .int .i64 B.act] 32)) _) _) hb1
    have GC : Hid (w1.heap[w.heap.size + 1 + 1]? = some (.cells #[.int .i64 C.i, .int .u32 (C.s : Int), .int .i64 C.sl, .int .u32 (C.d : Int), .int .i64 C.dl, .int .u16 (C.p.1 : Int), .int .u16 (C.p.2 : Int), .int .u16 (C.q.1 : Int), .int .u16 (C.q.2 : Int), .int .u8 (C.m.1 : Int), .int .u8 (C.m.2 : Int), .int .i64 C.act] 32)) := blk_on (blk_alloc (by simpa using blk_new ((w.alloc (.cells #[.int .i64 A.i, .int .u32 (A.s : Int), .int .i64 A.sl, .int .u32 (A.d : Int), .int .i64 A.dl, .int .u16 (A.p.1 : Int), .int .u16 (A.p.2 : Int), .int .u16 (A.q.1 : Int), .int .u16 (A.q.2 : Int), .int .u8 (A.m.1 : Int), .int .u8 (A.m.2 : Int), .int .i64 A.act] 32)).alloc (.cells #[.int .i64 B.i, .int .u32 (B.s : Int), .int .i64 B.sl, .int .u32 (B.d : Int), .int .i64 B.dl, .int .u16 (B.p.1 : Int), .int .u16 (B.p.2 : Int), .int .u16 (B.q.1 : Int), .int .u16 (B.q.2 : Int), .int .u8 (B.m.1 : Int), .int .u8 (B.m.2 : Int), .int .i64 B.act] 32)) (.cells #[.int .i64 C.i, .int .u32 (C.s : Int), .int .i64 C.sl, .int .u32 (C.d : Int), .int .i64 C.dl, .int .u16 (C.p.1 : Int), .int .u16 (C.p.2 : Int), .int .u16 (C.q.1 : Int), .int .u16 (C.q.2 : Int), .int .u8 (C.m.1 : Int), .int .u8 (C.m.2 : Int), .int .i64 C.act] 32)) _) hb1
    have Gh : Hid (w1.heap[w.heap.size + 1 + 1 + 1]? = some (.cells #[.int .u32 (h.s : Int), .int .u32 (h.d : Int), .int .u16 (h.p : Int), .int .u16 (h.q : Int), .int .u8 (h.r : Int)] 34)) := blk_on (by simpa using blk_new (((w.alloc (.cells #[.int .i64 A.i, .int .u32 (A.s : Int), .int .i64 A.sl, .int .u32 (A.d : Int), .int .i64 A.dl, .int .u16 (A.p.1 : Int), .int .u16 (A.p.2 : Int), .int .u16 (A.q.1 : Int), .int .u16 (A.q.2 : Int), .int .u8 (A.m.1 : Int), .int .u8 (A.m.2 : Int), .int .i64 A.act] 32)).alloc (.cells #[.int .i64 B.i, .int .u32 (B.s : Int), .int .i64 B.sl, .int .u32 (B.d : Int), .int .i64 B.dl, .int .u16 (B.p.1 : Int), .int .u16 (B.p.2 : Int), .int .u16 (B.q.1 : Int), .int .u16 (B.q.2 : Int), .int .u8 (B.m.1 : Int), .int .u8 (B.m.2 : Int), .int .i64 B.act] 32)).alloc (.cells #[.int .i64 C.i, .int .u32 (C.s : Int), .int .i64 C.sl, .int .u32 (C.d : Int), .int .i64 C.dl, .int .u16 (C.p.1 : Int), .int .u16 (C.p.2 : Int), .int .u16 (C.q.1 : Int), .int .u16 (C.q.2 : Int), .int .u8 (C.m.1 : Int), .int .u8 (C.m.2 : Int), .int .i64 C.act] 32)) (.cells #[.int .u32 (h.s : Int), .int .u32 (h.d : Int), .int .u16 (h.p : Int), .int .u16 (h.q : Int), .int .u8 (h.r : Int)] 34)) hb1
    have HO1 : Hid (w.heap.size + 1 + 1 + 1 < w1.heap.size) := blk_lt Gh.out
    have hbl1 : Hid (Below w.heap.size w w1) := bel_step (Below.refl _ _) (bel_a4 _ _ _ _ _) hb1
    clear hb1
    have HA := GA
    clear GA
    have HB := GB
    clear GB
    have HC := GC
    clear GC
    have Hh := Gh
    clear Gh
    have lA := blk_lt HA.out
    have nA : ¬ w.heap.size = w1.heap.size := by omega
    have lB := blk_lt HB.out
    have nB : ¬ w.heap.size + 1 = w1.heap.size := by omega
    have lC := blk_lt HC.out
    have nC : ¬ w.heap.size + 1 + 1 = w1.heap.size := by omega
    have lh := blk_lt Hh.out
    have nh : ¬ w.heap.size + 1 + 1 + 1 = w1.heap.size := by omega
    obtain ⟨A_0, A_1, A_2, A_3, A_4, A_5, A_6, A_7, A_8, A_9, A_10, A_11⟩ := blk12 HA.out
    obtain ⟨B_0, B_1, B_2, B_3, B_4, B_5, B_6, B_7, B_8, B_9, B_10, B_11⟩ := blk12 HB.out
    go_wp2_with (fail)
    refine (kBA _).mono ?_
    rintro e w2 ⟨rfl, hb2⟩
    have GA : Hid (w2.heap[w.heap.size]? = some (.cells #[.int .i64 A.i, .int .u32 (A.s : Int), .int .i64 A.sl, .int .u32 (A.d : Int), .int .i64 A.dl, .int .u16 (A.p.1 : Int), .int .u16 (A.p.2 : Int), .int .u16 (A.q.1 : Int), .int .u16 (A.q.2 : Int), .int .u8 (A.m.1 : Int), .int .u8 (A.m.2 : Int), .int .i64 A.act] 32)) := blk_on HA.out hb2
    have GB : Hid (w2.heap[w.heap.size + 1]? = some (.cells #[.int .i64 B.i, .int .u32 (B.s : Int), .int .i64 B.sl, .int .u32 (B.d : Int), .int .i64 B.dl, .int .u16 (B.p.1 : Int), .int .u16 (B.p.2 : Int), .int .u16 (B.q.1 : Int), .int .u16 (B.q.2 : Int), .int .u8 (B.m.1 : Int), .int .u8 (B.m.2 : Int), .int .i64 B.act] 32)) := blk_on HB.out hb2
    have GC : Hid (w2.heap[w.heap.size + 1 + 1]? = some (.cells #[.int .i64 C.i, .int .u32 (C.s : Int), .int .i64 C.sl, .int .u32 (C.d : Int), .int .i64 C.dl, .int .u16 (C.p.1 : Int), .int .u16 (C.p.2 : Int), .int .u16 (C.q.1 : Int), .int .u16 (C.q.2 : Int), .int .u8 (C.m.1 : Int), .int .u8 (C.m.2 : Int), .int .i64 C.act] 32)) := blk_on HC.out hb2
    have Gh : Hid (w2.heap[w.heap.size + 1 + 1 + 1]? = some (.cells #[.int .u32 (h.s : Int), .int .u32 (h.d : Int), .int .u16 (h.p : Int), .int .u16 (h.q : Int), .int .u8 (h.r : Int)] 34)) := blk_on Hh.out hb2
    have hbl2 : Hid (Below w.heap.size w w2) := bel_step hbl1.out (bel_a0 _) hb2
    clear HA HB HC Hh A_0 A_1 A_2 A_3 A_4 A_5 A_6 A_7 A_8 A_9 A_10 A_11 B_0 B_1 B_2 B_3 B_4 B_5 B_6 B_7 B_8 B_9 B_10 B_11 lA nA lB nB lC nC lh nh hb2 hbl1
    have HA := GA
    clear GA
    have HB := GB
    clear GB
    have HC := GC
    clear GC
    have Hh := Gh
    clear Gh
    have lA := blk_lt HA.out
    have nA : ¬ w.heap.size = w2.heap.size := by omega
    have lB := blk_lt HB.out
    have nB : ¬ w.heap.size + 1 = w2.heap.size := by omega
    have lC := blk_lt HC.out
    have nC : ¬ w.heap.size + 1 + 1 = w2.heap.size := by omega
    have lh := blk_lt Hh.out
    have nh : ¬ w.heap.size + 1 + 1 + 1 = w2.heap.size := by omega
    obtain ⟨A_0, A_1, A_2, A_3, A_4, A_5, A_6, A_7, A_8, A_9, A_10, A_11⟩ := blk12 HA.out
    obtain ⟨h_0, h_1, h_2, h_3, h_4⟩ := blk5 Hh.out
    go_wp2_with (fail)
    refine (hm1 _).mono ?_
    rintro e w3 ⟨rfl, hb3⟩
    have GA : Hid (w3.heap[w.heap.size]? = some (.cells #[.int .i64 A.i, .int .u32 (A.s : Int), .int .i64 A.sl, .int .u32 (A.d : Int), .int .i64 A.dl, .int .u16 (A.p.1 : Int), .int .u16 (A.p.2 : Int), .int .u16 (A.q.1 : Int), .int .u16 (A.q.2 : Int), .int .u8 (A.m.1 : Int), .int .u8 (A.m.2 : Int), .int .i64 A.act] 32)) := blk_on HA.out hb3
    have GB : Hid (w3.heap[w.heap.size + 1]? = some (.cells #[.int .i64 B.i, .int .u32 (B.s : Int), .int .i64 B.sl, .int .u32 (B.d : Int), .int .i64 B.dl, .int .u16 (B.p.1 : Int), .int .u16 (B.p.2 : Int), .int .u16 (B.q.1 : Int), .int .u16 (B.q.2 : Int), .int .u8 (B.m.1 : Int), .int .u8 (B.m.2 : Int), .int .i64 B.act] 32)) := blk_on HB.out hb3
    have GC : Hid (w3.heap[w.heap.size + 1 + 1]? = some (.cells #[.int .i64 C.i, .int .u32 (C.s : Int), .int .i64 C.sl, .int .u32 (C.d : Int), .int .i64 C.dl, .int .u16 (C.p.1 : Int), .int .u16 (C.p.2 : Int), .int .u16 (C.q.1 : Int), .int .u16 (C.q.2 : Int), .int .u8 (C.m.1 : Int), .int .u8 (C.m.2 : Int), .int .i64 C.act] 32)) := blk_on HC.out hb3
    have Gh : Hid (w3.heap[w.heap.size + 1 + 1 + 1]? = some (.cells #[.int .u32 (h.s : Int), .int .u32 (h.d : Int), .int .u16 (h.p : Int), .int .u16 (h.q : Int), .int .u8 (h.r : Int)] 34)) := blk_on Hh.out hb3
    have hbl3 : Hid (Below w.heap.size w w3) := bel_step hbl2.out (bel_a0 _) hb3
    clear HA HB HC Hh A_0 A_1 A_2 A_3 A_4 A_5 A_6 A_7 A_8 A_9 A_10 A_11 h_0 h_1 h_2 h_3 h_4 lA nA lB nB lC nC lh nh hb3 hbl2
    have HA := GA
    clear GA
    have HB := GB
    clear GB
    have HC := GC
    clear GC
    have Hh := Gh
    clear Gh
    have lA := blk_lt HA.out
    have nA : ¬ w.heap.size = w3.heap.size := by omega
    have lB := blk_lt HB.out
    have nB : ¬ w.heap.size + 1 = w3.heap.size := by omega
    have lC := blk_lt HC.out
    have nC : ¬ w.heap.size + 1 + 1 = w3.heap.size := by omega
    have lh := blk_lt Hh.out
    have nh : ¬ w.heap.size + 1 + 1 + 1 = w3.heap.size := by omega
    cases m1
    · obtain ⟨B_0, B_1, B_2, B_3, B_4, B_5, B_6, B_7, B_8, B_9, B_10, B_11⟩ := blk12 HB.out
      obtain ⟨C_0, C_1, C_2, C_3, C_4, C_5, C_6, C_7, C_8, C_9, C_10, C_11⟩ := blk12 HC.out
      go_wp2_with (fail)
      refine (kBC _).mono ?_
      rintro e w4 ⟨rfl, hb4⟩
      have GA : Hid (w4.heap[w.heap.size]? = some (.cells #[.int .i64 A.i, .int .u32 (A.s : Int), .int .i64 A.sl, .int .u32 (A.d : Int), .int .i64 A.dl, .int .u16 (A.p.1 : Int), .int .u16 (A.p.2 : Int), .int .u16 (A.q.1 : Int), .int .u16 (A.q.2 : Int), .int .u8 (A.m.1 : Int), .int .u8 (A.m.2 : Int), .int .i64 A.act] 32)) := blk_on HA.out hb4
      have GB : Hid (w4.heap[w.heap.size + 1]? = some (.cells #[.int .i64 B.i, .int .u32 (B.s : Int), .int .i64 B.sl, .int .u32 (B.d : Int), .int .i64 B.dl, .int .u16 (B.p.1 : Int), .int .u16 (B.p.2 : Int), .int .u16 (B.q.1 : Int), .int .u16 (B.q.2 : Int), .int .u8 (B.m.1 : Int), .int .u8 (B.m.2 : Int), .int .i64 B.act] 32)) := blk_on HB.out hb4
      have GC : Hid (w4.heap[w.heap.size + 1 + 1]? = some (.cells #[.int .i64 C.i, .int .u32 (C.s : Int), .int .i64 C.sl, .int .u32 (C.d : Int), .int .i64 C.dl, .int .u16 (C.p.1 : Int), .int .u16 (C.p.2 : Int), .int .u16 (C.q.1 : Int), .int .u16 (C.q.2 : Int), .int .u8 (C.m.1 : Int), .int .u8 (C.m.2 : Int), .int .i64 C.act] 32)) := blk_on HC.out hb4
      have Gh : Hid (w4.heap[w.heap.size + 1 + 1 + 1]? = some (.cells #[.int .u32 (h.s : Int), .int .u32 (h.d : Int), .int .u16 (h.p : Int), .int .u16 (h.q : Int), .int .u8 (h.r : Int)] 34)) := blk_on Hh.out hb4
      have hbl4 : Hid (Below w.heap.size w w4) := bel_step hbl3.out (bel_a0 _) hb4
      clear HA HB HC Hh B_0 B_1 B_2 B_3 B_4 B_5 B_6 B_7 B_8 B_9 B_10 B_11 C_0 C_1 C_2 C_3 C_4 C_5 C_6 C_7 C_8 C_9 C_10 C_11 lA nA lB nB lC nC lh nh hb4 hbl3
      have HA := GA
      clear GA
      have HB := GB
      clear GB
      have HC := GC
      clear GC
      have Hh := Gh
      clear Gh
      have lA := blk_lt HA.out
      have nA : ¬ w.heap.size = w4.heap.size := by omega
      have lB := blk_lt HB.out
      have nB : ¬ w.heap.size + 1 = w4.heap.size := by omega
      have lC := blk_lt HC.out
      have nC : ¬ w.heap.size + 1 + 1 = w4.heap.size := by omega
      have lh := blk_lt Hh.out
      have nh : ¬ w.heap.size + 1 + 1 + 1 = w4.heap.size := by omega
      cases bc
      · obtain ⟨A_0, A_1, A_2, A_3, A_4, A_5, A_6, A_7, A_8, A_9, A_10, A_11⟩ := blk12 HA.out
        go_wp2_with (fail)
        refine (hA _).mono ?_
        rintro e w5 ⟨rfl, hb5⟩
        have GA : Hid (w5.heap[w.heap.size]? = some (.cells #[.int .i64 A.i, .int .u32 (A.s : Int), .int .i64 A.sl, .int .u32 (A.d : Int), .int .i64 A.dl, .int .u16 (A.p.1 : Int), .int .u16 (A.p.2 : Int), .int .u16 (A.q.1 : Int), .int .u16 (A.q.2 : Int), .int .u8 (A.m.1 : Int), .int .u8 (A.m.2 : Int), .int .i64 A.act] 32)) := blk_on HA.out hb5
        have GB : Hid (w5.heap[w.heap.size + 1]? = some (.cells #[.int .i64 B.i, .int .u32 (B.s : Int), .int .i64 B.sl, .int .u32 (B.d : Int), .int .i64 B.dl, .int .u16 (B.p.1 : Int), .int .u16 (B.p.2 : Int), .int .u16 (B.q.1 : Int), .int .u16 (B.q.2 : Int), .int .u8 (B.m.1 : Int), .int .u8 (B.m.2 : Int), .int .i64 B.act] 32)) := blk_on HB.out hb5
        have GC : Hid (w5.heap[w.heap.size + 1 + 1]? = some (.cells #[.int .i64 C.i, .int .u32 (C.s : Int), .int .i64 C.sl, .int .u32 (C.d : Int), .int .i64 C.dl, .int .u16 (C.p.1 : Int), .int .u16 (C.p.2 : Int), .int .u16 (C.q.1 : Int), .int .u16 (C.q.2 : Int), .int .u8 (C.m.1 : Int), .int .u8 (C.m.2 : Int), .int .i64 C.act] 32)) := blk_on HC.out hb5
        have Gh : Hid (w5.heap[w.heap.size + 1 + 1 + 1]? = some (.cells #[.int .u32 (h.s : Int), .int .u32 (h.d : Int), .int .u16 (h.p : Int), .int .u16 (h.q : Int), .int .u8 (h.r : Int)] 34)) := blk_on Hh.out hb5
        have hbl5 : Hid (Below w.heap.size w w5) := bel_step hbl4.out (bel_a0 _) hb5
        clear HA HB HC Hh A_0 A_1 A_2 A_3 A_4 A_5 A_6 A_7 A_8 A_9 A_10 A_11 lA nA lB nB lC nC lh nh hb5 hbl4
        have HA := GA
        clear GA
        have HB := GB
        clear GB
        have HC := GC
        clear GC
        have Hh := Gh
        clear Gh
        have lA := blk_lt HA.out
        have nA : ¬ w.heap.size = w5.heap.size := by omega
        have lB := blk_lt HB.out
        have nB : ¬ w.heap.size + 1 = w5.heap.size := by omega
        have lC := blk_lt HC.out
        have nC : ¬ w.heap.size + 1 + 1 = w5.heap.size := by omega
        have lh := blk_lt Hh.out
        have nh : ¬ w.heap.size + 1 + 1 + 1 = w5.heap.size := by omega
        obtain ⟨B_0, B_1, B_2, B_3, B_4, B_5, B_6, B_7, B_8, B_9, B_10, B_11⟩ := blk12 HB.out
        go_wp2_with (fail)
        refine (hB _).mono ?_
        rintro e w6 ⟨rfl, hb6⟩
        have GA : Hid (w6.heap[w.heap.size]? = some (.cells #[.int .i64 A.i, .int .u32 (A.s : Int), .int .i64 A.sl, .int .u32 (A.d : Int), .int .i64 A.dl, .int .u16 (A.p.1 : Int), .int .u16 (A.p.2 : Int), .int .u16 (A.q.1 : Int), .int .u16 (A.q.2 : Int), .int .u8 (A.m.1 : Int), .int .u8 (A.m.2 : Int), .int .i64 A.act] 32)) := blk_on HA.out hb6
        have GB : Hid (w6.heap[w.heap.size + 1]? = some (.cells #[.int .i64 B.i, .int .u32 (B.s : Int), .int .i64 B.sl, .int .u32 (B.d : Int), .int .i64 B.dl, .int .u16 (B.p.1 : Int), .int .u16 (B.p.2 : Int), .int .u16 (B.q.1 : Int), .int .u16 (B.q.2 : Int), .int .u8 (B.m.1 : Int), .int .u8 (B.m.2 : Int), .int .i64 B.act] 32)) := blk_on HB.out hb6
        have GC : Hid (w6.heap[w.heap.size + 1 + 1]? = some (.cells #[.int .i64 C.i, .int .u32 (C.s : Int), .int .i64 C.sl, .int .u32 (C.d : Int), .int .i64 C.dl, .int .u16 (C.p.1 : Int), .int .u16 (C.p.2 : Int), .int .u16 (C.q.1 : Int), .int .u16 (C.q.2 : Int), .int .u8 (C.m.1 : Int), .int .u8 (C.m.2 : Int), .int .i64 C.act] 32)) := blk_on HC.out hb6
        have Gh : Hid (w6.heap[w.heap.size + 1 + 1 + 1]? = some (.cells #[.int .u32 (h.s : Int), .int .u32 (h.d : Int), .int .u16 (h.p : Int), .int .u16 (h.q : Int), .int .u8 (h.r : Int)] 34)) := blk_on Hh.out hb6
        have hbl6 : Hid (Below w.heap.size w w6) := bel_step hbl5.out (bel_a0 _) hb6
        clear HA HB HC Hh B_0 B_1 B_2 B_3 B_4 B_5 B_6 B_7 B_8 B_9 B_10 B_11 lA nA lB nB lC nC lh nh hb6 hbl5
        have HA := GA
        clear GA
        have HB := GB
        clear GB
        have HC := GC
        clear GC
        have Hh := Gh
        clear Gh
        have lA := blk_lt HA.out
        have nA : ¬ w.heap.size = w6.heap.size := by omega
        have lB := blk_lt HB.out
        have nB : ¬ w.heap.size + 1 = w6.heap.size := by omega
        have lC := blk_lt HC.out
        have nC : ¬ w.heap.size + 1 + 1 = w6.heap.size := by omega
        have lh := blk_lt Hh.out
        have nh : ¬ w.heap.size + 1 + 1 + 1 = w6.heap.size := by omega
        rcases HOR.out with ⟨o1, o2, o3⟩ | ⟨o1, o2, o3⟩ | ⟨o1, ⟨o2, o4⟩, o3⟩
        · subst o1 o2 o3
          go_wp2_with (fail)
          refine (awakeR _).mono ?_
          rintro e w7 ⟨rfl, hb7⟩
          have GA : Hid (w7.heap[w.heap.size]? = some (.cells #[.int .i64 A.i, .int .u32 (A.s : Int), .int .i64 A.sl, .int .u32 (A.d : Int), .int .i64 A.dl, .int .u16 (A.p.1 : Int), .int .u16 (A.p.2 : Int), .int .u16 (A.q.1 : Int), .int .u16 (A.q.2 : Int), .int .u8 (A.m.1 : Int), .int .u8 (A.m.2 : Int), .int .i64 A.act] 32)) := blk_on HA.out hb7
          have GB : Hid (w7.heap[w.heap.size + 1]? = some (.cells #[.int .i64 B.i, .int .u32 (B.s : Int), .int .i64 B.sl, .int .u32 (B.d : Int), .int .i64 B.dl, .int .u16 (B.p.1 : Int), .int .u16 (B.p.2 : Int), .int .u16 (B.q.1 : Int), .int .u16 (B.q.2 : Int), .int .u8 (B.m.1 : Int), .int .u8 (B.m.2 : Int), .int .i64 B.act] 32)) := blk_on HB.out hb7
          have GC : Hid (w7.heap[w.heap.size + 1 + 1]? = some (.cells #[.int .i64 C.i, .int .u32 (C.s : Int), .int .i64 C.sl, .int .u32 (C.d : Int), .int .i64 C.dl, .int .u16 (C.p.1 : Int), .int .u16 (C.p.2 : Int), .int .u16 (C.q.1 : Int), .int .u16 (C.q.2 : Int), .int .u8 (C.m.1 : Int), .int .u8 (C.m.2 : Int), .int .i64 C.act] 32)) := blk_on HC.out hb7
          have Gh : Hid (w7.heap[w.heap.size + 1 + 1 + 1]? = some (.cells #[.int .u32 (h.s : Int), .int .u32 (h.d : Int), .int .u16 (h.p : Int), .int .u16 (h.q : Int), .int .u8 (h.r : Int)] 34)) := blk_on Hh.out hb7
          have hbl7 : Hid (Below w.heap.size w w7) := bel_step hbl6.out (bel_a0 _) hb7
          clear HA HB HC Hh lA nA lB nB lC nC lh nh hb7 hbl6
          have HA := GA
          clear GA
          have HB := GB
          clear GB
          have HC := GC
          clear GC
          have Hh := Gh
          clear Gh
          have lA := blk_lt HA.out
          have nA : ¬ w.heap.size = w7.heap.size := by omega
          have lB := blk_lt HB.out
          have nB : ¬ w.heap.size + 1 = w7.heap.size := by omega
          have lC := blk_lt HC.out
          have nC : ¬ w.heap.size + 1 + 1 = w7.heap.size := by omega
          have lh := blk_lt Hh.out
          have nh : ¬ w.heap.size + 1 + 1 + 1 = w7.heap.size := by omega
          go_wp2_with (fail)
          go_ret
          exact ⟨rfl, hbl7.out⟩
        · subst o3
          have o5 : ((p : Int) == (r : Int)) = false := by simpa using o2
          go_wp2_with (fail)
          refine (awakeR _).mono ?_
          rintro e w7 ⟨rfl, hb7⟩
          have GA : Hid (w7.heap[w.heap.size]? = some (.cells #[.int .i64 A.i, .int .u32 (A.s : Int), .int .i64 A.sl, .int .u32 (A.d : Int), .int .i64 A.dl, .int .u16 (A.p.1 : Int), .int .u16 (A.p.2 : Int), .int .u16 (A.q.1 : Int), .int .u16 (A.q.2 : Int), .int .u8 (A.m.1 : Int), .int .u8 (A.m.2 : Int), .int .i64 A.act] 32)) := blk_on HA.out hb7
          have GB : Hid (w7.heap[w.heap.size + 1]? = some (.cells #[.int .i64 B.i, .int .u32 (B.s : Int), .int .i64 B.sl, .int .u32 (B.d : Int), .int .i64 B.dl, .int .u16 (B.p.1 : Int), .int .u16 (B.p.2 : Int), .int .u16 (B.q.1 : Int), .int .u16 (B.q.2 : Int), .int .u8 (B.m.1 : Int), .int .u8 (B.m.2 : Int), .int .i64 B.act] 32)) := blk_on HB.out hb7
          have GC : Hid (w7.heap[w.heap.size + 1 + 1]? = some (.cells #[.int .i64 C.i, .int .u32 (C.s : Int), .int .i64 C.sl, .int .u32 (C.d : Int), .int .i64 C.dl, .int .u16 (C.p.1 : Int), .int .u16 (C.p.2 : Int), .int .u16 (C.q.1 : Int), .int .u16 (C.q.2 : Int), .int .u8 (C.m.1 : Int), .int .u8 (C.m.2 : Int), .int .i64 C.act] 32)) := blk_on HC.out hb7
          have Gh : Hid (w7.heap[w.heap.size + 1 + 1 + 1]? = some (.cells #[.int .u32 (h.s : Int), .int .u32 (h.d : Int), .int .u16 (h.p : Int), .int .u16 (h.q : Int), .int .u8 (h.r : Int)] 34)) := blk_on Hh.out hb7
          have hbl7 : Hid (Below w.heap.size w w7) := bel_step hbl6.out (bel_a0 _) hb7
          clear HA HB HC Hh lA nA lB nB lC nC lh nh hb7 hbl6
          have HA := GA
          clear GA
          have HB := GB
          clear GB
          have HC := GC
          clear GC
          have Hh := Gh
          clear Gh
          have lA := blk_lt HA.out
          have nA : ¬ w.heap.size = w7.heap.size := by omega
          have lB := blk_lt HB.out
          have nB : ¬ w.heap.size + 1 = w7.heap.size := by omega
          have lC := blk_lt HC.out
          have nC : ¬ w.heap.size + 1 + 1 = w7.heap.size := by omega
          have lh := blk_lt Hh.out
          have nh : ¬ w.heap.size + 1 + 1 + 1 = w7.heap.size := by omega
          go_wp2_with (fail)
          go_ret
          exact ⟨ret_same (by simp <;> omega), hbl7.out⟩
        · subst o1 o3
          have o5 : ((q : Int) == (s : Int)) = false := by simpa using o4
          go_wp2_with (fail)
          refine (awakeR _).mono ?_
          rintro e w7 ⟨rfl, hb7⟩
          have GA : Hid (w7.heap[w.heap.size]? = some (.cells #[.int .i64 A.i, .int .u32 (A.s : Int), .int .i64 A.sl, .int .u32 (A.d : Int), .int .i64 A.dl, .int .u16 (A.p.1 : Int), .int .u16 (A.p.2 : Int), .int .u16 (A.q.1 : Int), .int .u16 (A.q.2 : Int), .int .u8 (A.m.1 : Int), .int .u8 (A.m.2 : Int), .int .i64 A.act] 32)) := blk_on HA.out hb7
          have GB : Hid (w7.heap[w.heap.size + 1]? = some (.cells #[.int .i64 B.i, .int .u32 (B.s : Int), .int .i64 B.sl, .int .u32 (B.d : Int), .int .i64 B.dl, .int .u16 (B.p.1 : Int), .int .u16 (B.p.2 : Int), .int .u16 (B.q.1 : Int), .int .u16 (B.q.2 : Int), .int .u8 (B.m.1 : Int), .int .u8 (B.m.2 : Int), .int .i64 B.act] 32)) := blk_on HB.out hb7
          have GC : Hid (w7.heap[w.heap.size + 1 + 1]? = some (.cells #[.int .i64 C.i, .int .u32 (C.s : Int), .int .i64 C.sl, .int .u32 (C.d : Int), .int .i64 C.dl, .int .u16 (C.p.1 : Int), .int .u16 (C.p.2 : Int), .int .u16 (C.q.1 : Int), .int .u16 (C.q.2 : Int), .int .u8 (C.m.1 : Int), .int .u8 (C.m.2 : Int), .int .i64 C.act] 32)) := blk_on HC.out hb7
          have Gh : Hid (w7.heap[w.heap.size + 1 + 1 + 1]? = some (.cells #[.int .u32 (h.s : Int), .int .u32 (h.d : Int), .int .u16 (h.p : Int), .int .u16 (h.q : Int), .int .u8 (h.r : Int)] 34)) := blk_on Hh.out hb7
          have hbl7 : Hid (Below w.heap.size w w7) := bel_step hbl6.out (bel_a0 _) hb7
          clear HA HB HC Hh lA nA lB nB lC nC lh nh hb7 hbl6
          have HA := GA
          clear GA
          have HB := GB
          clear GB
          have HC := GC
          clear GC
          have Hh := Gh
          clear Gh
          have lA := blk_lt HA.out
          have nA : ¬ w.heap.size = w7.heap.size := by omega
          have lB := blk_lt HB.out
          have nB : ¬ w.heap.size + 1 = w7.heap.size := by omega
          have lC := blk_lt HC.out
          have nC : ¬ w.heap.size + 1 + 1 = w7.heap.size := by omega
          have lh := blk_lt Hh.out
          have nh : ¬ w.heap.size + 1 + 1 + 1 = w7.heap.size := by omega
          go_wp2_with (fail)
          go_ret
          exact ⟨ret_same (by simp <;> omega), hbl7.out⟩
      · have hac := HAC.out rfl
        rw [hac] at kAC
        clear hac
        obtain ⟨A_0, A_1, A_2, A_3, A_4, A_5, A_6, A_7, A_8, A_9, A_10, A_11⟩ := blk12 HA.out
        obtain ⟨C_0, C_1, C_2, C_3, C_4, C_5, C_6, C_7, C_8, C_9, C_10, C_11⟩ := blk12 HC.out
        go_wp2_with (fail)
        refine (kAC _).mono ?_
        rintro e w5 ⟨rfl, hb5⟩
        have GA : Hid (w5.heap[w.heap.size]? = some (.cells #[.int .i64 A.i, .int .u32 (A.s : Int), .int .i64 A.sl, .int .u32 (A.d : Int), .int .i64 A.dl, .int .u16 (A.p.1 : Int), .int .u16 (A.p.2 : Int), .int .u16 (A.q.1 : Int), .int .u16 (A.q.2 : Int), .int .u8 (A.m.1 : Int), .int .u8 (A.m.2 : Int), .int .i64 A.act] 32)) := blk_on HA.out hb5
        have GB : Hid (w5.heap[w.heap.size + 1]? = some (.cells #[.int .i64 B.i, .int .u32 (B.s : Int), .int .i64 B.sl, .int .u32 (B.d : Int), .int .i64 B.dl, .int .u16 (B.p.1 : Int), .int .u16 (B.p.2 : Int), .int .u16 (B.q.1 : Int), .int .u16 (B.q.2 : Int), .int .u8 (B.m.1 : Int), .int .u8 (B.m.2 : Int), .int .i64 B.act] 32)) := blk_on HB.out hb5
        have GC : Hid (w5.heap[w.heap.size + 1 + 1]? = some (.cells #[.int .i64 C.i, .int .u32 (C.s : Int), .int .i64 C.sl, .int .u32 (C.d : Int), .int .i64 C.dl, .int .u16 (C.p.1 : Int), .int .u16 (C.p.2 : Int), .int .u16 (C.q.1 : Int), .int .u16 (C.q.2 : Int), .int .u8 (C.m.1 : Int), .int .u8 (C.m.2 : Int), .int .i64 C.act] 32)) := blk_on HC.out hb5
        have Gh : Hid (w5.heap[w.heap.size + 1 + 1 + 1]? = some (.cells #[.int .u32 (h.s : Int), .int .u32 (h.d : Int), .int .u16 (h.p : Int), .int .u16 (h.q : Int), .int .u8 (h.r : Int)] 34)) := blk_on Hh.out hb5
        have hbl5 : Hid (Below w.heap.size w w5) := bel_step hbl4.out (bel_a0 _) hb5
        clear HA HB HC Hh A_0 A_1 A_2 A_3 A_4 A_5 A_6 A_7 A_8 A_9 A_10 A_11 C_0 C_1 C_2 C_3 C_4 C_5 C_6 C_7 C_8 C_9 C_10 C_11 lA nA lB nB lC nC lh nh hb5 hbl4
        have HA := GA
        clear GA
        have HB := GB
        clear GB
        have HC := GC
        clear GC
        have Hh := Gh
        clear Gh
        have lA := blk_lt HA.out
        have nA : ¬ w.heap.size = w5.heap.size := by omega
        have lB := blk_lt HB.out
        have nB : ¬ w.heap.size + 1 = w5.heap.size := by omega
        have lC := blk_lt HC.out
        have nC : ¬ w.heap.size + 1 + 1 = w5.heap.size := by omega
        have lh := blk_lt Hh.out
        have nh : ¬ w.heap.size + 1 + 1 + 1 = w5.heap.size := by omega
        obtain ⟨A_0, A_1, A_2, A_3, A_4, A_5, A_6, A_7, A_8, A_9, A_10, A_11⟩ := blk12 HA.out
        go_wp2_with (fail)
        refine (hA _).mono ?_
        rintro e w6 ⟨rfl, hb6⟩
        have GA : Hid (w6.heap[w.heap.size]? = some (.cells #[.int .i64 A.i, .int .u32 (A.s : Int), .int .i64 A.sl, .int .u32 (A.d : Int), .int .i64 A.dl, .int .u16 (A.p.1 : Int), .int .u16 (A.p.2 : Int), .int .u16 (A.q.1 : Int), .int .u16 (A.q.2 : Int), .int .u8 (A.m.1 : Int), .int .u8 (A.m.2 : Int), .int .i64 A.act] 32)) := blk_on HA.out hb6
        have GB : Hid (w6.heap[w.heap.size + 1]? = some (.cells #[.int .i64 B.i, .int .u32 (B.s : Int), .int .i64 B.sl, .int .u32 (B.d : Int), .int .i64 B.dl, .int .u16 (B.p.1 : Int), .int .u16 (B.p.2 : Int), .int .u16 (B.q.1 : Int), .int .u16 (B.q.2 : Int), .int .u8 (B.m.1 : Int), .int .u8 (B.m.2 : Int), .int .i64 B.act] 32)) := blk_on HB.out hb6
        have GC : Hid (w6.heap[w.heap.size + 1 + 1]? = some (.cells #[.int .i64 C.i, .int .u32 (C.s : Int), .int .i64 C.sl, .int .u32 (C.d : Int), .int .i64 C.dl, .int .u16 (C.p.1 : Int), .int .u16 (C.p.2 : Int), .int .u16 (C.q.1 : Int), .int .u16 (C.q.2 : Int), .int .u8 (C.m.1 : Int), .int .u8 (C.m.2 : Int), .int .i64 C.act] 32)) := blk_on HC.out hb6
        have Gh : Hid (w6.heap[w.heap.size + 1 + 1 + 1]? = some (.cells #[.int .u32 (h.s : Int), .int .u32 (h.d : Int), .int .u16 (h.p : Int), .int .u16 (h.q : Int), .int .u8 (h.r : Int)] 34)) := blk_on Hh.out hb6
        have hbl6 : Hid (Below w.heap.size w w6) := bel_step hbl5.out (bel_a0 _) hb6
        clear HA HB HC Hh A_0 A_1 A_2 A_3 A_4 A_5 A_6 A_7 A_8 A_9 A_10 A_11 lA nA lB nB lC nC lh nh hb6 hbl5
        have HA := GA
        clear GA
        have HB := GB
        clear GB
        have HC := GC
        clear GC
        have Hh := Gh
        clear Gh
        have lA := blk_lt HA.out
        have nA : ¬ w.heap.size = w6.heap.size := by omega
        have lB := blk_lt HB.out
        have nB : ¬ w.heap.size + 1 = w6.heap.size := by omega
        have lC := blk_lt HC.out
        have nC : ¬ w.heap.size + 1 + 1 = w6.heap.size := by omega
        have lh := blk_lt Hh.out
        have nh : ¬ w.heap.size + 1 + 1 + 1 = w6.heap.size := by omega
        obtain ⟨B_0, B_1, B_2, B_3, B_4, B_5, B_6, B_7, B_8, B_9, B_10, B_11⟩ := blk12 HB.out
        go_wp2_with (fail)
        refine (hB _).mono ?_
        rintro e w7 ⟨rfl, hb7⟩
        have GA : Hid (w7.heap[w.heap.size]? = some (.cells #[.int .i64 A.i, .int .u32 (A.s : Int), .int .i64 A.sl, .int .u32 (A.d : Int), .int .i64 A.dl, .int .u16 (A.p.1 : Int), .int .u16 (A.p.2 : Int), .int .u16 (A.q.1 : Int), .int .u16 (A.q.2 : Int), .int .u8 (A.m.1 : Int), .int .u8 (A.m.2 : Int), .int .i64 A.act] 32)) := blk_on HA.out hb7
        have GB : Hid (w7.heap[w.heap.size + 1]? = some (.cells #[.int .i64 B.i, .int .u32 (B.s : Int), .int .i64 B.sl, .int .u32 (B.d : Int), .int .i64 B.dl, .int .u16 (B.p.1 : Int), .int .u16 (B.p.2 : Int), .int .u16 (B.q.1 : Int), .int .u16 (B.q.2 : Int), .int .u8 (B.m.1 : Int), .int .u8 (B.m.2 : Int), .int .i64 B.act] 32)) := blk_on HB.out hb7
        have GC : Hid (w7.heap[w.heap.size + 1 + 1]? = some (.cells #[.int .i64 C.i, .int .u32 (C.s : Int), .int .i64 C.sl, .int .u32 (C.d : Int), .int .i64 C.dl, .int .u16 (C.p.1 : Int), .int .u16 (C.p.2 : Int), .int .u16 (C.q.1 : Int), .int .u16 (C.q.2 : Int), .int .u8 (C.m.1 : Int), .int .u8 (C.m.2 : Int), .int .i64 C.act] 32)) := blk_on HC.out hb7
        have Gh : Hid (w7.heap[w.heap.size + 1 + 1 + 1]? = some (.cells #[.int .u32 (h.s : Int), .int .u32 (h.d : Int), .int .u16 (h.p : Int), .int .u16 (h.q : Int), .int .u8 (h.r : Int)] 34)) := blk_on Hh.out hb7
        have hbl7 : Hid (Below w.heap.size w w7) := bel_step hbl6.out (bel_a0 _) hb7
        clear HA HB HC Hh B_0 B_1 B_2 B_3 B_4 B_5 B_6 B_7 B_8 B_9 B_10 B_11 lA nA lB nB lC nC lh nh hb7 hbl6
        have HA := GA
        clear GA
        have HB := GB
        clear GB
        have HC := GC
        clear GC
        have Hh := Gh
        clear Gh
        have lA := blk_lt HA.out
        have nA : ¬ w.heap.size = w7.heap.size := by omega
        have lB := blk_lt HB.out
        have nB : ¬ w.heap.size + 1 = w7.heap.size := by omega
        have lC := blk_lt HC.out
        have nC : ¬ w.heap.size + 1 + 1 = w7.heap.size := by omega
        have lh := blk_lt Hh.out
        have nh : ¬ w.heap.size + 1 + 1 + 1 = w7.heap.size := by omega
        rcases HOR.out with ⟨o1, o2, o3⟩ | ⟨o1, o2, o3⟩ | ⟨o1, ⟨o2, o4⟩, o3⟩
        · subst o1 o2 o3
          go_wp2_with (fail)
          refine (awakeR _).mono ?_
          rintro e w8 ⟨rfl, hb8⟩
          have GA : Hid (w8.heap[w.heap.size]? = some (.cells #[.int .i64 A.i, .int .u32 (A.s : Int), .int .i64 A.sl, .int .u32 (A.d : Int), .int .i64 A.dl, .int .u16 (A.p.1 : Int), .int .u16 (A.p.2 : Int), .int .u16 (A.q.1 : Int), .int .u16 (A.q.2 : Int), .int .u8 (A.m.1 : Int), .int .u8 (A.m.2 : Int), .int .i64 A.act] 32)) := blk_on HA.out hb8
          have GB : Hid (w8.heap[w.heap.size + 1]? = some (.cells #[.int .i64 B.i, .int .u32 (B.s : Int), .int .i64 B.sl, .int .u32 (B.d : Int), .int .i64 B.dl, .int .u16 (B.p.1 : Int), .int .u16 (B.p.2 : Int), .int .u16 (B.q.1 : Int), .int .u16 (B.q.2 : Int), .int .u8 (B.m.1 : Int), .int .u8 (B.m.2 : Int), .int .i64 B.act] 32)) := blk_on HB.out hb8
          have GC : Hid (w8.heap[w.heap.size + 1 + 1]? = some (.cells #[.int .i64 C.i, .int .u32 (C.s : Int), .int .i64 C.sl, .int .u32 (C.d : Int), .int .i64 C.dl, .int .u16 (C.p.1 : Int), .int .u16 (C.p.2 : Int), .int .u16 (C.q.1 : Int), .int .u16 (C.q.2 : Int), .int .u8 (C.m.1 : Int), .int .u8 (C.m.2 : Int), .int .i64 C.act] 32)) := blk_on HC.out hb8
          have Gh : Hid (w8.heap[w.heap.size + 1 + 1 + 1]? = some (.cells #[.int .u32 (h.s : Int), .int .u32 (h.d : Int), .int .u16 (h.p : Int), .int .u16 (h.q : Int), .int .u8 (h.r : Int)] 34)) := blk_on Hh.out hb8
          have hbl8 : Hid (Below w.heap.size w w8) := bel_step hbl7.out (bel_a0 _) hb8
          clear HA HB HC Hh lA nA lB nB lC nC lh nh hb8 hbl7
          have HA := GA
          clear GA
          have HB := GB
          clear GB
          have HC := GC
          clear GC
          have Hh := Gh
          clear Gh
          have lA := blk_lt HA.out
          have nA : ¬ w.heap.size = w8.heap.size := by omega
          have lB := blk_lt HB.out
          have nB : ¬ w.heap.size + 1 = w8.heap.size := by omega
          have lC := blk_lt HC.out
          have nC : ¬ w.heap.size + 1 + 1 = w8.heap.size := by omega
          have lh := blk_lt Hh.out
          have nh : ¬ w.heap.size + 1 + 1 + 1 = w8.heap.size := by omega
          go_wp2_with (fail)
          go_ret
          exact ⟨rfl, hbl8.out⟩
        · subst o3
          have o5 : ((p : Int) == (r : Int)) = false := by simpa using o2
          go_wp2_with (fail)
          refine (awakeR _).mono ?_
          rintro e w8 ⟨rfl, hb8⟩
          have GA : Hid (w8.heap[w.heap.size]? = some (.cells #[.int .i64 A.i, .int .u32 (A.s : Int), .int .i64 A.sl, .int .u32 (A.d : Int), .int .i64 A.dl, .int .u16 (A.p.1 : Int), .int .u16 (A.p.2 : Int), .int .u16 (A.q.1 : Int), .int .u16 (A.q.2 : Int), .int .u8 (A.m.1 : Int), .int .u8 (A.m.2 : Int), .int .i64 A.act] 32)) := blk_on HA.out hb8
          have GB : Hid (w8.heap[w.heap.size + 1]? = some (.cells #[.int .i64 B.i, .int .u32 (B.s : Int), .int .i64 B.sl, .int .u32 (B.d : Int), .int .i64 B.dl, .int .u16 (B.p.1 : Int), .int .u16 (B.p.2 : Int), .int .u16 (B.q.1 : Int), .int .u16 (B.q.2 : Int), .int .u8 (B.m.1 : Int), .int .u8 (B.m.2 : Int), .int .i64 B.act] 32)) := blk_on HB.out hb8
          have GC : Hid (w8.heap[w.heap.size + 1 + 1]? = some (.cells #[.int .i64 C.i, .int .u32 (C.s : Int), .int .i64 C.sl, .int .u32 (C.d : Int), .int .i64 C.dl, .int .u16 (C.p.1 : Int), .int .u16 (C.p.2 : Int), .int .u16 (C.q.1 : Int), .int .u16 (C.q.2 : Int), .int .u8 (C.m.1 : Int), .int .u8 (C.m.2 : Int), .int .i64 C.act] 32)) := blk_on HC.out hb8
          have Gh : Hid (w8.heap[w.heap.size + 1 + 1 + 1]? = some (.cells #[.int .u32 (h.s : Int), .int .u32 (h.d : Int), .int .u16 (h.p : Int), .int .u16 (h.q : Int), .int .u8 (h.r : Int)] 34)) := blk_on Hh.out hb8
          have hbl8 : Hid (Below w.heap.size w w8) := bel_step hbl7.out (bel_a0 _) hb8
          clear HA HB HC Hh lA nA lB nB lC nC lh nh hb8 hbl7
          have HA := GA
          clear GA
          have HB := GB
          clear GB
          have HC := GC
          clear GC
          have Hh := Gh
          clear Gh
          have lA := blk_lt HA.out
          have nA : ¬ w.heap.size = w8.heap.size := by omega
          have lB := blk_lt HB.out
          have nB : ¬ w.heap.size + 1 = w8.heap.size := by omega
          have lC := blk_lt HC.out
          have nC : ¬ w.heap.size + 1 + 1 = w8.heap.size := by omega
          have lh := blk_lt Hh.out
          have nh : ¬ w.heap.size + 1 + 1 + 1 = w8.heap.size := by omega
          go_wp2_with (fail)
          go_ret
          exact ⟨ret_same (by simp <;> omega), hbl8.out⟩
        · subst o1 o3
          have o5 : ((q : Int) == (s : Int)) = false := by simpa using o4
          go_wp2_with (fail)
          refine (awakeR _).mono ?_
          rintro e w8 ⟨rfl, hb8⟩
          have GA : Hid (w8.heap[w.heap.size]? = some (.cells #[.int .i64 A.i, .int .u32 (A.s : Int), .int .i64 A.sl, .int .u32 (A.d : Int), .int .i64 A.dl, .int .u16 (A.p.1 : Int), .int .u16 (A.p.2 : Int), .int .u16 (A.q.1 : Int), .int .u16 (A.q.2 : Int), .int .u8 (A.m.1 : Int), .int .u8 (A.m.2 : Int), .int .i64 A.act] 32)) := blk_on HA.out hb8
          have GB : Hid (w8.heap[w.heap.size + 1]? = some (.cells #[.int .i64 B.i, .int .u32 (B.s : Int), .int .i64 B.sl, .int .u32 (B.d : Int), .int .i64 B.dl, .int .u16 (B.p.1 : Int), .int .u16 (B.p.2 : Int), .int .u16 (B.q.1 : Int), .int .u16 (B.q.2 : Int), .int .u8 (B.m.1 : Int), .int .u8 (B.m.2 : Int), .int .i64 B.act] 32)) := blk_on HB.out hb8
          have GC : Hid (w8.heap[w.heap.size + 1 + 1]? = some (.cells #[.int .i64 C.i, .int .u32 (C.s : Int), .int .i64 C.sl, .int .u32 (C.d : Int), .int .i64 C.dl, .int .u16 (C.p.1 : Int), .int .u16 (C.p.2 : Int), .int .u16 (C.q.1 : Int), .int .u16 (C.q.2 : Int), .int .u8 (C.m.1 : Int), .int .u8 (C.m.2 : Int), .int .i64 C.act] 32)) := blk_on HC.out hb8
          have Gh : Hid (w8.heap[w.heap.size + 1 + 1 + 1]? = some (.cells #[.int .u32 (h.s : Int), .int .u32 (h.d : Int), .int .u16 (h.p : Int), .int .u16 (h.q : Int), .int .u8 (h.r : Int)] 34)) := blk_on Hh.out hb8
          have hbl8 : Hid (Below w.heap.size w w8) := bel_step hbl7.out (bel_a0 _) hb8
          clear HA HB HC Hh lA nA lB nB lC nC lh nh hb8 hbl7
          have HA := GA
          clear GA
          have HB := GB
          clear GB
          have HC := GC
          clear GC
          have Hh := Gh
          clear Gh
          have lA := blk_lt HA.out
          have nA : ¬ w.heap.size = w8.heap.size := by omega
          have lB := blk_lt HB.out
          have nB : ¬ w.heap.size + 1 = w8.heap.size := by omega
          have lC := blk_lt HC.out
          have nC : ¬ w.heap.size + 1 + 1 = w8.heap.size := by omega
          have lh := blk_lt Hh.out
          have nh : ¬ w.heap.size + 1 + 1 + 1 = w8.heap.size := by omega
          go_wp2_with (fail)
          go_ret
          exact ⟨ret_same (by simp <;> omega), hbl8.out⟩
    · have hmm := HMM.out rfl
      rw [hmm] at hm2
      clear hmm
      obtain ⟨B_0, B_1, B_2, B_3, B_4, B_5, B_6, B_7, B_8, B_9, B_10, B_11⟩ := blk12 HB.out
      obtain ⟨h_0, h_1, h_2, h_3, h_4⟩ := blk5 Hh.out
      go_wp2_with (fail)
      refine (hm2 _).mono ?_
      rintro e w4 ⟨rfl, hb4⟩
      have GA : Hid (w4.heap[w.heap.size]? = some (.cells #[.int .i64 A.i, .int .u32 (A.s : Int), .int .i64 A.sl, .int .u32 (A.d : Int), .int .i64 A.dl, .int .u16 (A.p.1 : Int), .int .u16 (A.p.2 : Int), .int .u16 (A.q.1 : Int), .int .u16 (A.q.2 : Int), .int .u8 (A.m.1 : Int), .int .u8 (A.m.2 : Int), .int .i64 A.act] 32)) := blk_on HA.out hb4
      have GB : Hid (w4.heap[w.heap.size + 1]? = some (.cells #[.int .i64 B.i, .int .u32 (B.s : Int), .int .i64 B.sl, .int .u32 (B.d : Int), .int .i64 B.dl, .int .u16 (B.p.1 : Int), .int .u16 (B.p.2 : Int), .int .u16 (B.q.1 : Int), .int .u16 (B.q.2 : Int), .int .u8 (B.m.1 : Int), .int .u8 (B.m.2 : Int), .int .i64 B.act] 32)) := blk_on HB.out hb4
      have GC : Hid (w4.heap[w.heap.size + 1 + 1]? = some (.cells #[.int .i64 C.i, .int .u32 (C.s : Int), .int .i64 C.sl, .int .u32 (C.d : Int), .int .i64 C.dl, .int .u16 (C.p.1 : Int), .int .u16 (C.p.2 : Int), .int .u16 (C.q.1 : Int), .int .u16 (C.q.2 : Int), .int .u8 (C.m.1 : Int), .int .u8 (C.m.2 : Int), .int .i64 C.act] 32)) := blk_on HC.out hb4
      have Gh : Hid (w4.heap[w.heap.size + 1 + 1 + 1]? = some (.cells #[.int .u32 (h.s : Int), .int .u32 (h.d : Int), .int .u16 (h.p : Int), .int .u16 (h.q : Int), .int .u8 (h.r : Int)] 34)) := blk_on Hh.out hb4
      have hbl4 : Hid (Below w.heap.size w w4) := bel_step hbl3.out (bel_a0 _) hb4
      clear HA HB HC Hh B_0 B_1 B_2 B_3 B_4 B_5 B_6 B_7 B_8 B_9 B_10 B_11 h_0 h_1 h_2 h_3 h_4 lA nA lB nB lC nC lh nh hb4 hbl3
      have HA := GA
      clear GA
      have HB := GB
      clear GB
      have HC := GC
      clear GC
      have Hh := Gh
      clear Gh
      have lA := blk_lt HA.out
      have nA : ¬ w.heap.size = w4.heap.size := by omega
      have lB := blk_lt HB.out
      have nB : ¬ w.heap.size + 1 = w4.heap.size := by omega
      have lC := blk_lt HC.out
      have nC : ¬ w.heap.size + 1 + 1 = w4.heap.size := by omega
      have lh := blk_lt Hh.out
      have nh : ¬ w.heap.size + 1 + 1 + 1 = w4.heap.size := by omega
      obtain ⟨B_0, B_1, B_2, B_3, B_4, B_5, B_6, B_7, B_8, B_9, B_10, B_11⟩ := blk12 HB.out
      obtain ⟨C_0, C_1, C_2, C_3, C_4, C_5, C_6, C_7, C_8, C_9, C_10, C_11⟩ := blk12 HC.out
      go_wp2_with (fail)
      refine (kBC _).mono ?_
      rintro e w5 ⟨rfl, hb5⟩
      have GA : Hid (w5.heap[w.heap.size]? = some (.cells #[.int .i64 A.i, .int .u32 (A.s : Int), .int .i64 A.sl, .int .u32 (A.d : Int), .int .i64 A.dl, .int .u16 (A.p.1 : Int), .int .u16 (A.p.2 : Int), .int .u16 (A.q.1 : Int), .int .u16 (A.q.2 : Int), .int .u8 (A.m.1 : Int), .int .u8 (A.m.2 : Int), .int .i64 A.act] 32)) := blk_on HA.out hb5
      have GB : Hid (w5.heap[w.heap.size + 1]? = some (.cells #[.int .i64 B.i, .int .u32 (B.s : Int), .int .i64 B.sl, .int .u32 (B.d : Int), .int .i64 B.dl, .int .u16 (B.p.1 : Int), .int .u16 (B.p.2 : Int), .int .u16 (B.q.1 : Int), .int .u16 (B.q.2 : Int), .int .u8 (B.m.1 : Int), .int .u8 (B.m.2 : Int), .int .i64 B.act] 32)) := blk_on HB.out hb5
      have GC : Hid (w5.heap[w.heap.size + 1 + 1]? = some (.cells #[.int .i64 C.i, .int .u32 (C.s : Int), .int .i64 C.sl, .int .u32 (C.d : Int), .int .i64 C.dl, .int .u16 (C.p.1 : Int), .int .u16 (C.p.2 : Int), .int .u16 (C.q.1 : Int), .int .u16 (C.q.2 : Int), .int .u8 (C.m.1 : Int), .int .u8 (C.m.2 : Int), .int .i64 C.act] 32)) := blk_on HC.out hb5
      have Gh : Hid (w5.heap[w.heap.size + 1 + 1 + 1]? = some (.cells #[.int .u32 (h.s : Int), .int .u32 (h.d : Int), .int .u16 (h.p : Int), .int .u16 (h.q : Int), .int .u8 (h.r : Int)] 34)) := blk_on Hh.out hb5
      have hbl5 : Hid (Below w.heap.size w w5) := bel_step hbl4.out (bel_a0 _) hb5
      clear HA HB HC Hh B_0 B_1 B_2 B_3 B_4 B_5 B_6 B_7 B_8 B_9 B_10 B_11 C_0 C_1 C_2 C_3 C_4 C_5 C_6 C_7 C_8 C_9 C_10 C_11 lA nA lB nB lC nC lh nh hb5 hbl4
      have HA := GA
      clear GA
      have HB := GB
      clear GB
      have HC := GC
      clear GC
      have Hh := Gh
      clear Gh
      have lA := blk_lt HA.out
      have nA : ¬ w.heap.size = w5.heap.size := by omega
      have lB := blk_lt HB.out
      have nB : ¬ w.heap.size + 1 = w5.heap.size := by omega
      have lC := blk_lt HC.out
      have nC : ¬ w.heap.size + 1 + 1 = w5.heap.size := by omega
      have lh := blk_lt Hh.out
      have nh : ¬ w.heap.size + 1 + 1 + 1 = w5.heap.size := by omega
      cases bc
      · obtain ⟨A_0, A_1, A_2, A_3, A_4, A_5, A_6, A_7, A_8, A_9, A_10, A_11⟩ := blk12 HA.out
        go_wp2_with (fail)
        refine (hA _).mono ?_
        rintro e w6 ⟨rfl, hb6⟩
        have GA : Hid (w6.heap[w.heap.size]? = some (.cells #[.int .i64 A.i, .int .u32 (A.s : Int), .int .i64 A.sl, .int .u32 (A.d : Int), .int .i64 A.dl, .int .u16 (A.p.1 : Int), .int .u16 (A.p.2 : Int), .int .u16 (A.q.1 : Int), .int .u16 (A.q.2 : Int), .int .u8 (A.m.1 : Int), .int .u8 (A.m.2 : Int), .int .i64 A.act] 32)) := blk_on HA.out hb6
        have GB : Hid (w6.heap[w.heap.size + 1]? = some (.cells #[.int .i64 B.i, .int .u32 (B.s : Int), .int .i64 B.sl, .int .u32 (B.d : Int), .int .i64 B.dl, .int .u16 (B.p.1 : Int), .int .u16 (B.p.2 : Int), .int .u16 (B.q.1 : Int), .int .u16 (B.q.2 : Int), .int .u8 (B.m.1 : Int), .int .u8 (B.m.2 : Int), .int .i64 B.act] 32)) := blk_on HB.out hb6
        have GC : Hid (w6.heap[w.heap.size + 1 + 1]? = some (.cells #[.int .i64 C.i, .int .u32 (C.s : Int), .int .i64 C.sl, .int .u32 (C.d : Int), .int .i64 C.dl, .int .u16 (C.p.1 : Int), .int .u16 (C.p.2 : Int), .int .u16 (C.q.1 : Int), .int .u16 (C.q.2 : Int), .int .u8 (C.m.1 : Int), .int .u8 (C.m.2 : Int), .int .i64 C.act] 32)) := blk_on HC.out hb6
        have Gh : Hid (w6.heap[w.heap.size + 1 + 1 + 1]? = some (.cells #[.int .u32 (h.s : Int), .int .u32 (h.d : Int), .int .u16 (h.p : Int), .int .u16 (h.q : Int), .int .u8 (h.r : Int)] 34)) := blk_on Hh.out hb6
        have hbl6 : Hid (Below w.heap.size w w6) := bel_step hbl5.out (bel_a0 _) hb6
        clear HA HB HC Hh A_0 A_1 A_2 A_3 A_4 A_5 A_6 A_7 A_8 A_9 A_10 A_11 lA nA lB nB lC nC lh nh hb6 hbl5
        have HA := GA
        clear GA
        have HB := GB
        clear GB
        have HC := GC
        clear GC
        have Hh := Gh
        clear Gh
        have lA := blk_lt HA.out
        have nA : ¬ w.heap.size = w6.heap.size := by omega
        have lB := blk_lt HB.out
        have nB : ¬ w.heap.size + 1 = w6.heap.size := by omega
        have lC := blk_lt HC.out
        have nC : ¬ w.heap.size + 1 + 1 = w6.heap.size := by omega
        have lh := blk_lt Hh.out
        have nh : ¬ w.heap.size + 1 + 1 + 1 = w6.heap.size := by omega
        obtain ⟨B_0, B_1, B_2, B_3, B_4, B_5, B_6, B_7, B_8, B_9, B_10, B_11⟩ := blk12 HB.out
        go_wp2_with (fail)
        refine (hB _).mono ?_
        rintro e w7 ⟨rfl, hb7⟩
        have GA : Hid (w7.heap[w.heap.size]? = some (.cells #[.int .i64 A.i, .int .u32 (A.s : Int), .int .i64 A.sl, .int .u32 (A.d : Int), .int .i64 A.dl, .int .u16 (A.p.1 : Int), .int .u16 (A.p.2 : Int), .int .u16 (A.q.1 : Int), .int .u16 (A.q.2 : Int), .int .u8 (A.m.1 : Int), .int .u8 (A.m.2 : Int), .int .i64 A.act] 32)) := blk_on HA.out hb7
        have GB : Hid (w7.heap[w.heap.size + 1]? = some (.cells #[.int .i64 B.i, .int .u32 (B.s : Int), .int .i64 B.sl, .int .u32 (B.d : Int), .int .i64 B.dl, .int .u16 (B.p.1 : Int), .int .u16 (B.p.2 : Int), .int .u16 (B.q.1 : Int), .int .u16 (B.q.2 : Int), .int .u8 (B.m.1 : Int), .int .u8 (B.m.2 : Int), .int .i64 B.act] 32)) := blk_on HB.out hb7
        have GC : Hid (w7.heap[w.heap.size + 1 + 1]? = some (.cells #[.int .i64 C.i, .int .u32 (C.s : Int), .int .i64 C.sl, .int .u32 (C.d : Int), .int .i64 C.dl, .int .u16 (C.p.1 : Int), .int .u16 (C.p.2 : Int), .int .u16 (C.q.1 : Int), .int .u16 (C.q.2 : Int), .int .u8 (C.m.1 : Int), .int .u8 (C.m.2 : Int), .int .i64 C.act] 32)) := blk_on HC.out hb7
        have Gh : Hid (w7.heap[w.heap.size + 1 + 1 + 1]? = some (.cells #[.int .u32 (h.s : Int), .int .u32 (h.d : Int), .int .u16 (h.p : Int), .int .u16 (h.q : Int), .int .u8 (h.r : Int)] 34)) := blk_on Hh.out hb7
        have hbl7 : Hid (Below w.heap.size w w7) := bel_step hbl6.out (bel_a0 _) hb7
        clear HA HB HC Hh B_0 B_1 B_2 B_3 B_4 B_5 B_6 B_7 B_8 B_9 B_10 B_11 lA nA lB nB lC nC lh nh hb7 hbl6
        have HA := GA
        clear GA
        have HB := GB
        clear GB
        have HC := GC
        clear GC
        have Hh := Gh
        clear Gh
        have lA := blk_lt HA.out
        have nA : ¬ w.heap.size = w7.heap.size := by omega
        have lB := blk_lt HB.out
        have nB : ¬ w.heap.size + 1 = w7.heap.size := by omega
        have lC := blk_lt HC.out
        have nC : ¬ w.heap.size + 1 + 1 = w7.heap.size := by omega
        have lh := blk_lt Hh.out
        have nh : ¬ w.heap.size + 1 + 1 + 1 = w7.heap.size := by omega
        rcases HOR.out with ⟨o1, o2, o3⟩ | ⟨o1, o2, o3⟩ | ⟨o1, ⟨o2, o4⟩, o3⟩
        · subst o1 o2 o3
          go_wp2_with (fail)
          refine (awakeR _).mono ?_
          rintro e w8 ⟨rfl, hb8⟩
          have GA : Hid (w8.heap[w.heap.size]? = some (.cells #[.int .i64 A.i, .int .u32 (A.s : Int), .int .i64 A.sl, .int .u32 (A.d : Int), .int .i64 A.dl, .int .u16 (A.p.1 : Int), .int .u16 (A.p.2 : Int), .int .u16 (A.q.1 : Int), .int .u16 (A.q.2 : Int), .int .u8 (A.m.1 : Int), .int .u8 (A.m.2 : Int), .int .i64 A.act] 32)) := blk_on HA.out hb8
          have GB : Hid (w8.heap[w.heap.size + 1]? = some (.cells #[.int .i64 B.i, .int .u32 (B.s : Int), .int .i64 B.sl, .int .u32 (B.d : Int), .int .i64 B.dl, .int .u16 (B.p.1 : Int), .int .u16 (B.p.2 : Int), .int .u16 (B.q.1 : Int), .int .u16 (B.q.2 : Int), .int .u8 (B.m.1 : Int), .int .u8 (B.m.2 : Int), .int .i64 B.act] 32)) := blk_on HB.out hb8
          have GC : Hid (w8.heap[w.heap.size + 1 + 1]? = some (.cells #[.int .i64 C.i, .int .u32 (C.s : Int), .int .i64 C.sl, .int .u32 (C.d : Int), .int .i64 C.dl, .int .u16 (C.p.1 : Int), .int .u16 (C.p.2 : Int), .int .u16 (C.q.1 : Int), .int .u16 (C.q.2 : Int), .int .u8 (C.m.1 : Int), .int .u8 (C.m.2 : Int), .int .i64 C.act] 32)) := blk_on HC.out hb8
          have Gh : Hid (w8.heap[w.heap.size + 1 + 1 + 1]? = some (.cells #[.int .u32 (h.s : Int), .int .u32 (h.d : Int), .int .u16 (h.p : Int), .int .u16 (h.q : Int), .int .u8 (h.r : Int)] 34)) := blk_on Hh.out hb8
          have hbl8 : Hid (Below w.heap.size w w8) := bel_step hbl7.out (bel_a0 _) hb8
          clear HA HB HC Hh lA nA lB nB lC nC lh nh hb8 hbl7
          have HA := GA
          clear GA
          have HB := GB
          clear GB
          have HC := GC
          clear GC
          have Hh := Gh
          clear Gh
          have lA := blk_lt HA.out
          have nA : ¬ w.heap.size = w8.heap.size := by omega
          have lB := blk_lt HB.out
          have nB : ¬ w.heap.size + 1 = w8.heap.size := by omega
          have lC := blk_lt HC.out
          have nC : ¬ w.heap.size + 1 + 1 = w8.heap.size := by omega
          have lh := blk_lt Hh.out
          have nh : ¬ w.heap.size + 1 + 1 + 1 = w8.heap.size := by omega
          go_wp2_with (fail)
          go_ret
          exact ⟨rfl, hbl8.out⟩
        · subst o3
          have o5 : ((p : Int) == (r : Int)) = false := by simpa using o2
          go_wp2_with (fail)
          refine (awakeR _).mono ?_
          rintro e w8 ⟨rfl, hb8⟩
          have GA : Hid (w8.heap[w.heap.size]? = some (.cells #[.int .i64 A.i, .int .u32 (A.s : Int), .int .i64 A.sl, .int .u32 (A.d : Int), .int .i64 A.dl, .int .u16 (A.p.1 : Int), .int .u16 (A.p.2 : Int), .int .u16 (A.q.1 : Int), .int .u16 (A.q.2 : Int), .int .u8 (A.m.1 : Int), .int .u8 (A.m.2 : Int), .int .i64 A.act] 32)) := blk_on HA.out hb8
          have GB : Hid (w8.heap[w.heap.size + 1]? = some (.cells #[.int .i64 B.i, .int .u32 (B.s : Int), .int .i64 B.sl, .int .u32 (B.d : Int), .int .i64 B.dl, .int .u16 (B.p.1 : Int), .int .u16 (B.p.2 : Int), .int .u16 (B.q.1 : Int), .int .u16 (B.q.2 : Int), .int .u8 (B.m.1 : Int), .int .u8 (B.m.2 : Int), .int .i64 B.act] 32)) := blk_on HB.out hb8
          have GC : Hid (w8.heap[w.heap.size + 1 + 1]? = some (.cells #[.int .i64 C.i, .int .u32 (C.s : Int), .int .i64 C.sl, .int .u32 (C.d : Int), .int .i64 C.dl, .int .u16 (C.p.1 : Int), .int .u16 (C.p.2 : Int), .int .u16 (C.q.1 : Int), .int .u16 (C.q.2 : Int), .int .u8 (C.m.1 : Int), .int .u8 (C.m.2 : Int), .int .i64 C.act] 32)) := blk_on HC.out hb8
          have Gh : Hid (w8.heap[w.heap.size + 1 + 1 + 1]? = some (.cells #[.int .u32 (h.s : Int), .int .u32 (h.d : Int), .int .u16 (h.p : Int), .int .u16 (h.q : Int), .int .u8 (h.r : Int)] 34)) := blk_on Hh.out hb8
          have hbl8 : Hid (Below w.heap.size w w8) := bel_step hbl7.out (bel_a0 _) hb8
          clear HA HB HC Hh lA nA lB nB lC nC lh nh hb8 hbl7
          have HA := GA
          clear GA
          have HB := GB
          clear GB
          have HC := GC
          clear GC
          have Hh := Gh
          clear Gh
          have lA := blk_lt HA.out
          have nA : ¬ w.heap.size = w8.heap.size := by omega
          have lB := blk_lt HB.out
          have nB : ¬ w.heap.size + 1 = w8.heap.size := by omega
          have lC := blk_lt HC.out
          have nC : ¬ w.heap.size + 1 + 1 = w8.heap.size := by omega
          have lh := blk_lt Hh.out
          have nh : ¬ w.heap.size + 1 + 1 + 1 = w8.heap.size := by omega
          go_wp2_with (fail)
          go_ret
          exact ⟨ret_same (by simp <;> omega), hbl8.out⟩
        · subst o1 o3
          have o5 : ((q : Int) == (s : Int)) = false := by simpa using o4
          go_wp2_with (fail)
          refine (awakeR _).mono ?_
          rintro e w8 ⟨rfl, hb8⟩
          have GA : Hid (w8.heap[w.heap.size]? = some (.cells #[.int .i64 A.i, .int .u32 (A.s : Int), .int .i64 A.sl, .int .u32 (A.d : Int), .int .i64 A.dl, .int .u16 (A.p.1 : Int), .int .u16 (A.p.2 : Int), .int .u16 (A.q.1 : Int), .int .u16 (A.q.2 : Int), .int .u8 (A.m.1 : Int), .int .u8 (A.m.2 : Int), .int .i64 A.act] 32)) := blk_on HA.out hb8
          have GB : Hid (w8.heap[w.heap.size + 1]? = some (.cells #[.int .i64 B.i, .int .u32 (B.s : Int), .int .i64 B.sl, .int .u32 (B.d : Int), .int .i64 B.dl, .int .u16 (B.p.1 : Int), .int .u16 (B.p.2 : Int), .int .u16 (B.q.1 : Int), .int .u16 (B.q.2 : Int), .int .u8 (B.m.1 : Int), .int .u8 (B.m.2 : Int), .int .i64 B.act] 32)) := blk_on HB.out hb8
          have GC : Hid (w8.heap[w.heap.size + 1 + 1]? = some (.cells #[.int .i64 C.i, .int .u32 (C.s : Int), .int .i64 C.sl, .int .u32 (C.d : Int), .int .i64 C.dl, .int .u16 (C.p.1 : Int), .int .u16 (C.p.2 : Int), .int .u16 (C.q.1 : Int), .int .u16 (C.q.2 : Int), .int .u8 (C.m.1 : Int), .int .u8 (C.m.2 : Int), .int .i64 C.act] 32)) := blk_on HC.out hb8
          have Gh : Hid (w8.heap[w.heap.size + 1 + 1 + 1]? = some (.cells #[.int .u32 (h.s : Int), .int .u32 (h.d : Int), .int .u16 (h.p : Int), .int .u16 (h.q : Int), .int .u8 (h.r : Int)] 34)) := blk_on Hh.out hb8
          have hbl8 : Hid (Below w.heap.size w w8) := bel_step hbl7.out (bel_a0 _) hb8
          clear HA HB HC Hh lA nA lB nB lC nC lh nh hb8 hbl7
          have HA := GA
          clear GA
          have HB := GB
          clear GB
          have HC := GC
          clear GC
          have Hh := Gh
          clear Gh
          have lA := blk_lt HA.out
          have nA : ¬ w.heap.size = w8.heap.size := by omega
          have lB := blk_lt HB.out
          have nB : ¬ w.heap.size + 1 = w8.heap.size := by omega
          have lC := blk_lt HC.out
          have nC : ¬ w.heap.size + 1 + 1 = w8.heap.size := by omega
          have lh := blk_lt Hh.out
          have nh : ¬ w.heap.size + 1 + 1 + 1 = w8.heap.size := by omega
          go_wp2_with (fail)
          go_ret
          exact ⟨ret_same (by simp <;> omega), hbl8.out⟩
      · have hac := HAC.out rfl
        rw [hac] at kAC
        clear hac
        obtain ⟨A_0, A_1, A_2, A_3, A_4, A_5, A_6, A_7, A_8, A_9, A_10, A_11⟩ := blk12 HA.out
        obtain ⟨C_0, C_1, C_2, C_3, C_4, C_5, C_6, C_7, C_8, C_9, C_10, C_11⟩ := blk12 HC.out
        go_wp2_with (fail)
        refine (kAC _).mono ?_
        rintro e w6 ⟨rfl, hb6⟩
        have GA : Hid (w6.heap[w.heap.size]? = some (.cells #[.int .i64 A.i, .int .u32 (A.s : Int), .int .i64 A.sl, .int .u32 (A.d : Int), .int .i64 A.dl, .int .u16 (A.p.1 : Int), .int .u16 (A.p.2 : Int), .int .u16 (A.q.1 : Int), .int .u16 (A.q.2 : Int), .int .u8 (A.m.1 : Int), .int .u8 (A.m.2 : Int), .int .i64 A.act] 32)) := blk_on HA.out hb6
        have GB : Hid (w6.heap[w.heap.size + 1]? = some (.cells #[.int .i64 B.i, .int .u32 (B.s : Int), .int .i64 B.sl, .int .u32 (B.d : Int), .int .i64 B.dl, .int .u16 (B.p.1 : Int), .int .u16 (B.p.2 : Int), .int .u16 (B.q.1 : Int), .int .u16 (B.q.2 : Int), .int .u8 (B.m.1 : Int), .int .u8 (B.m.2 : Int), .int .i64 B.act] 32)) := blk_on HB.out hb6
        have GC : Hid (w6.heap[w.heap.size + 1 + 1]? = some (.cells #[.int .i64 C.i, .int .u32 (C.s : Int), .int .i64 C.sl, .int .u32 (C.d : Int), .int .i64 C.dl, .int .u16 (C.p.1 : Int), .int .u16 (C.p.2 : Int), .int .u16 (C.q.1 : Int), .int .u16 (C.q.2 : Int), .int .u8 (C.m.1 : Int), .int .u8 (C.m.2 : Int), .int .i64 C.act] 32)) := blk_on HC.out hb6
        have Gh : Hid (w6.heap[w.heap.size + 1 + 1 + 1]? = some (.cells #[.int .u32 (h.s : Int), .int .u32 (h.d : Int), .int .u16 (h.p : Int), .int .u16 (h.q : Int), .int .u8 (h.r : Int)] 34)) := blk_on Hh.out hb6
        have hbl6 : Hid (Below w.heap.size w w6) := bel_step hbl5.out (bel_a0 _) hb6
        clear HA HB HC Hh A_0 A_1 A_2 A_3 A_4 A_5 A_6 A_7 A_8 A_9 A_10 A_11 C_0 C_1 C_2 C_3 C_4 C_5 C_6 C_7 C_8 C_9 C_10 C_11 lA nA lB nB lC nC lh nh hb6 hbl5
        have HA := GA
        clear GA
        have HB := GB
        clear GB
        have HC := GC
        clear GC
        have Hh := Gh
        clear Gh
        have lA := blk_lt HA.out
        have nA : ¬ w.heap.size = w6.heap.size := by omega
        have lB := blk_lt HB.out
        have nB : ¬ w.heap.size + 1 = w6.heap.size := by omega
        have lC := blk_lt HC.out
        have nC : ¬ w.heap.size + 1 + 1 = w6.heap.size := by omega
        have lh := blk_lt Hh.out
        have nh : ¬ w.heap.size + 1 + 1 + 1 = w6.heap.size := by omega
        obtain ⟨A_0, A_1, A_2, A_3, A_4, A_5, A_6, A_7, A_8, A_9, A_10, A_11⟩ := blk12 HA.out
        go_wp2_with (fail)
        refine (hA _).mono ?_
        rintro e w7 ⟨rfl, hb7⟩
        have GA : Hid (w7.heap[w.heap.size]? = some (.cells #[.int .i64 A.i, .int .u32 (A.s : Int), .int .i64 A.sl, .int .u32 (A.d : Int), .int .i64 A.dl, .int .u16 (A.p.1 : Int), .int .u16 (A.p.2 : Int), .int .u16 (A.q.1 : Int), .int .u16 (A.q.2 : Int), .int .u8 (A.m.1 : Int), .int .u8 (A.m.2 : Int), .int .i64 A.act] 32)) := blk_on HA.out hb7
        have GB : Hid (w7.heap[w.heap.size + 1]? = some (.cells #[.int .i64 B.i, .int .u32 (B.s : Int), .int .i64 B.sl, .int .u32 (B.d : Int), .int .i64 B.dl, .int .u16 (B.p.1 : Int), .int .u16 (B.p.2 : Int), .int .u16 (B.q.1 : Int), .int .u16 (B.q.2 : Int), .int .u8 (B.m.1 : Int), .int .u8 (B.m.2 : Int), .int .i64 B.act] 32)) := blk_on HB.out hb7
        have GC : Hid (w7.heap[w.heap.size + 1 + 1]? = some (.cells #[.int .i64 C.i, .int .u32 (C.s : Int), .int .i64 C.sl, .int .u32 (C.d : Int), .int .i64 C.dl, .int .u16 (C.p.1 : Int), .int .u16 (C.p.2 : Int), .int .u16 (C.q.1 : Int), .int .u16 (C.q.2 : Int), .int .u8 (C.m.1 : Int), .int .u8 (C.m.2 : Int), .int .i64 C.act] 32)) := blk_on HC.out hb7
        have Gh : Hid (w7.heap[w.heap.size + 1 + 1 + 1]? = some (.cells #[.int .u32 (h.s : Int), .int .u32 (h.d : Int), .int .u16 (h.p : Int), .int .u16 (h.q : Int), .int .u8 (h.r : Int)] 34)) := blk_on Hh.out hb7
        have hbl7 : Hid (Below w.heap.size w w7) := bel_step hbl6.out (bel_a0 _) hb7
        clear HA HB HC Hh A_0 A_1 A_2 A_3 A_4 A_5 A_6 A_7 A_8 A_9 A_10 A_11 lA nA lB nB lC nC lh nh hb7 hbl6
        have HA := GA
        clear GA
        have HB := GB
        clear GB
        have HC := GC
        clear GC
        have Hh := Gh
        clear Gh
        have lA := blk_lt HA.out
        have nA : ¬ w.heap.size = w7.heap.size := by omega
        have lB := blk_lt HB.out
        have nB : ¬ w.heap.size + 1 = w7.heap.size := by omega
        have lC := blk_lt HC.out
        have nC : ¬ w.heap.size + 1 + 1 = w7.heap.size := by omega
        have lh := blk_lt Hh.out
        have nh : ¬ w.heap.size + 1 + 1 + 1 = w7.heap.size := by omega
        obtain ⟨B_0, B_1, B_2, B_3, B_4, B_5, B_6, B_7, B_8, B_9, B_10, B_11⟩ := blk12 HB.out
        go_wp2_with (fail)
        refine (hB _).mono ?_
        rintro e w8 ⟨rfl, hb8⟩
        have GA : Hid (w8.heap[w.heap.size]? = some (.cells #[.int .i64 A.i, .int .u32 (A.s : Int), .int .i64 A.sl, .int .u32 (A.d : Int), .int .i64 A.dl, .int .u16 (A.p.1 : Int), .int .u16 (A.p.2 : Int), .int .u16 (A.q.1 : Int), .int .u16 (A.q.2 : Int), .int .u8 (A.m.1 : Int), .int .u8 (A.m.2 : Int), .int .i64 A.act] 32)) := blk_on HA.out hb8
        have GB : Hid (w8.heap[w.heap.size + 1]? = some (.cells #[.int .i64 B.i, .int .u32 (B.s : Int), .int .i64 B.sl, .int .u32 (B.d : Int), .int .i64 B.dl, .int .u16 (B.p.1 : Int), .int .u16 (B.p.2 : Int), .int .u16 (B.q.1 : Int), .int .u16 (B.q.2 : Int), .int .u8 (B.m.1 : Int), .int .u8 (B.m.2 : Int), .int .i64 B.act] 32)) := blk_on HB.out hb8
        have GC : Hid (w8.heap[w.heap.size + 1 + 1]? = some (.cells #[.int .i64 C.i, .int .u32 (C.s : Int), .int .i64 C.sl, .int .u32 (C.d : Int), .int .i64 C.dl, .int .u16 (C.p.1 : Int), .int .u16 (C.p.2 : Int), .int .u16 (C.q.1 : Int), .int .u16 (C.q.2 : Int), .int .u8 (C.m.1 : Int), .int .u8 (C.m.2 : Int), .int .i64 C.act] 32)) := blk_on HC.out hb8
        have Gh : Hid (w8.heap[w.heap.size + 1 + 1 + 1]? = some (.cells #[.int .u32 (h.s : Int), .int .u32 (h.d : Int), .int .u16 (h.p : Int), .int .u16 (h.q : Int), .int .u8 (h.r : Int)] 34)) := blk_on Hh.out hb8
        have hbl8 : Hid (Below w.heap.size w w8) := bel_step hbl7.out (bel_a0 _) hb8
        clear HA HB HC Hh B_0 B_1 B_2 B_3 B_4 B_5 B_6 B_7 B_8 B_9 B_10 B_11 lA nA lB nB lC nC lh nh hb8 hbl7
        have HA := GA
        clear GA
        have HB := GB
        clear GB
        have HC := GC
        clear GC
        have Hh := Gh
        clear Gh
        have lA := blk_lt HA.out
        have nA : ¬ w.heap.size = w8.heap.size := by omega
        have lB := blk_lt HB.out
        have nB : ¬ w.heap.size + 1 = w8.heap.size := by omega
        have lC := blk_lt HC.out
        have nC : ¬ w.heap.size + 1 + 1 = w8.heap.size := by omega
        have lh := blk_lt Hh.out
        have nh : ¬ w.heap.size + 1 + 1 + 1 = w8.heap.size := by omega
        rcases HOR.out with ⟨o1, o2, o3⟩ | ⟨o1, o2, o3⟩ | ⟨o1, ⟨o2, o4⟩, o3⟩
        · subst o1 o2 o3
          go_wp2_with (fail)
          refine (awakeR _).mono ?_
          rintro e w9 ⟨rfl, hb9⟩
          have GA : Hid (w9.heap[w.heap.size]? = some (.cells #[.int .i64 A.i, .int .u32 (A.s : Int), .int .i64 A.sl, .int .u32 (A.d : Int), .int .i64 A.dl, .int .u16 (A.p.1 : Int), .int .u16 (A.p.2 : Int), .int .u16 (A.q.1 : Int), .int .u16 (A.q.2 : Int), .int .u8 (A.m.1 : Int), .int .u8 (A.m.2 : Int), .int .i64 A.act] 32)) := blk_on HA.out hb9
          have GB : Hid (w9.heap[w.heap.size + 1]? = some (.cells #[.int .i64 B.i, .int .u32 (B.s : Int), .int .i64 B.sl, .int .u32 (B.d : Int), .int .i64 B.dl, .int .u16 (B.p.1 : Int), .int .u16 (B.p.2 : Int), .int .u16 (B.q.1 : Int), .int .u16 (B.q.2 : Int), .int .u8 (B.m.1 : Int), .int .u8 (B.m.2 : Int), .int .i64 B.act] 32)) := blk_on HB.out hb9
          have GC : Hid (w9.heap[w.heap.size + 1 + 1]? = some (.cells #[.int .i64 C.i, .int .u32 (C.s : Int), .int .i64 C.sl, .int .u32 (C.d : Int), .int .i64 C.dl, .int .u16 (C.p.1 : Int), .int .u16 (C.p.2 : Int), .int .u16 (C.q.1 : Int), .int .u16 (C.q.2 : Int), .int .u8 (C.m.1 : Int), .int .u8 (C.m.2 : Int), .int .i64 C.act] 32)) := blk_on HC.out hb9
          have Gh : Hid (w9.heap[w.heap.size + 1 + 1 + 1]? = some (.cells #[.int .u32 (h.s : Int), .int .u32 (h.d : Int), .int .u16 (h.p : Int), .int .u16 (h.q : Int), .int .u8 (h.r : Int)] 34)) := blk_on Hh.out hb9
          have hbl9 : Hid (Below w.heap.size w w9) := bel_step hbl8.out (bel_a0 _) hb9
          clear HA HB HC Hh lA nA lB nB lC nC lh nh hb9 hbl8
          have HA := GA
          clear GA
          have HB := GB
          clear GB
          have HC := GC
          clear GC
          have Hh := Gh
          clear Gh
          have lA := blk_lt HA.out
          have nA : ¬ w.heap.size = w9.heap.size := by omega
          have lB := blk_lt HB.out
          have nB : ¬ w.heap.size + 1 = w9.heap.size := by omega
          have lC := blk_lt HC.out
          have nC : ¬ w.heap.size + 1 + 1 = w9.heap.size := by omega
          have lh := blk_lt Hh.out
          have nh : ¬ w.heap.size + 1 + 1 + 1 = w9.heap.size := by omega
          go_wp2_with (fail)
          go_ret
          exact ⟨rfl, hbl9.out⟩
        · subst o3
          have o5 : ((p : Int) == (r : Int)) = false := by simpa using o2
          go_wp2_with (fail)
          refine (awakeR _).mono ?_
          rintro e w9 ⟨rfl, hb9⟩
          have GA : Hid (w9.heap[w.heap.size]? = some (.cells #[.int .i64 A.i, .int .u32 (A.s : Int), .int .i64 A.sl, .int .u32 (A.d : Int), .int .i64 A.dl, .int .u16 (A.p.1 : Int), .int .u16 (A.p.2 : Int), .int .u16 (A.q.1 : Int), .int .u16 (A.q.2 : Int), .int .u8 (A.m.1 : Int), .int .u8 (A.m.2 : Int), .int .i64 A.act] 32)) := blk_on HA.out hb9
          have GB : Hid (w9.heap[w.heap.size + 1]? = some (.cells #[.int .i64 B.i, .int .u32 (B.s : Int), .int .i64 B.sl, .int .u32 (B.d : Int), .int .i64 B.dl, .int .u16 (B.p.1 : Int), .int .u16 (B.p.2 : Int), .int .u16 (B.q.1 : Int), .int .u16 (B.q.2 : Int), .int .u8 (B.m.1 : Int), .int .u8 (B.m.2 : Int), .int .i64 B.act] 32)) := blk_on HB.out hb9
          have GC : Hid (w9.heap[w.heap.size + 1 + 1]? = some (.cells #[.int .i64 C.i, .int .u32 (C.s : Int), .int .i64 C.sl, .int .u32 (C.d : Int), .int .i64 C.dl, .int .u16 (C.p.1 : Int), .int .u16 (C.p.2 : Int), .int .u16 (C.q.1 : Int), .int .u16 (C.q.2 : Int), .int .u8 (C.m.1 : Int), .int .u8 (C.m.2 : Int), .int .i64 C.act] 32)) := blk_on HC.out hb9
          have Gh : Hid (w9.heap[w.heap.size + 1 + 1 + 1]? = some (.cells #[.int .u32 (h.s : Int), .int .u32 (h.d : Int), .int .u16 (h.p : Int), .int .u16 (h.q : Int), .int .u8 (h.r : Int)] 34)) := blk_on Hh.out hb9
          have hbl9 : Hid (Below w.heap.size w w9) := bel_step hbl8.out (bel_a0 _) hb9
          clear HA HB HC Hh lA nA lB nB lC nC lh nh hb9 hbl8
          have HA := GA
          clear GA
          have HB := GB
          clear GB
          have HC := GC
          clear GC
          have Hh := Gh
          clear Gh
          have lA := blk_lt HA.out
          have nA : ¬ w.heap.size = w9.heap.size := by omega
          have lB := blk_lt HB.out
          have nB : ¬ w.heap.size + 1 = w9.heap.size := by omega
          have lC := blk_lt HC.out
          have nC : ¬ w.heap.size + 1 + 1 = w9.heap.size := by omega
          have lh := blk_lt Hh.out
          have nh : ¬ w.heap.size + 1 + 1 + 1 = w9.heap.size := by omega
          go_wp2_with (fail)
          go_ret
          exact ⟨ret_same (by simp <;> omega), hbl9.out⟩
        · subst o1 o3
          have o5 : ((q : Int) == (s : Int)) = false := by simpa using o4
          go_wp2_with (fail)
          refine (awakeR _).mono ?_
          rintro e w9 ⟨rfl, hb9⟩
          have GA : Hid (w9.heap[w.heap.size]? = some (.cells #[.int .i64 A.i, .int .u32 (A.s : Int), .int .i64 A.sl, .int .u32 (A.d : Int), .int .i64 A.dl, .int .u16 (A.p.1 : Int), .int .u16 (A.p.2 : Int), .int .u16 (A.q.1 : Int), .int .u16 (A.q.2 : Int), .int .u8 (A.m.1 : Int), .int .u8 (A.m.2 : Int), .int .i64 A.act] 32)) := blk_on HA.out hb9
          have GB : Hid (w9.heap[w.heap.size + 1]? = some (.cells #[.int .i64 B.i, .int .u32 (B.s : Int), .int .i64 B.sl, .int .u32 (B.d : Int), .int .i64 B.dl, .int .u16 (B.p.1 : Int), .int .u16 (B.p.2 : Int), .int .u16 (B.q.1 : Int), .int .u16 (B.q.2 : Int), .int .u8 (B.m.1 : Int), .int .u8 (B.m.2 : Int), .int .i64 B.act] 32)) := blk_on HB.out hb9
          have GC : Hid (w9.heap[w.heap.size + 1 + 1]? = some (.cells #[.int .i64 C.i, .int .u32 (C.s : Int), .int .i64 C.sl, .int .u32 (C.d : Int), .int .i64 C.dl, .int .u16 (C.p.1 : Int), .int .u16 (C.p.2 : Int), .int .u16 (C.q.1 : Int), .int .u16 (C.q.2 : Int), .int .u8 (C.m.1 : Int), .int .u8 (C.m.2 : Int), .int .i64 C.act] 32)) := blk_on HC.out hb9
          have Gh : Hid (w9.heap[w.heap.size + 1 + 1 + 1]? = some (.cells #[.int .u32 (h.s : Int), .int .u32 (h.d : Int), .int .u16 (h.p : Int), .int .u16 (h.q : Int), .int .u8 (h.r : Int)] 34)) := blk_on Hh.out hb9
          have hbl9 : Hid (Below w.heap.size w w9) := bel_step hbl8.out (bel_a0 _) hb9
          clear HA HB HC Hh lA nA lB nB lC nC lh nh hb9 hbl8
          have HA := GA
          clear GA
          have HB := GB
          clear GB
          have HC := GC
          clear GC
          have Hh := Gh
          clear Gh
          have lA := blk_lt HA.out
          have nA : ¬ w.heap.size = w9.heap.size := by omega
          have lB := blk_lt HB.out
          have nB : ¬ w.heap.size + 1 = w9.heap.size := by omega
          have lC := blk_lt HC.out
          have nC : ¬ w.heap.size + 1 + 1 = w9.heap.size := by omega
          have lh := blk_lt Hh.out
          have nh : ¬ w.heap.size + 1 + 1 + 1 = w9.heap.size := by omega
          go_wp2_with (fail)
          go_ret
          exact ⟨ret_same (by simp <;> omega), hbl9.out⟩

set_option maxRecDepth 100000 in
theorem ruleInside_lifted (os : Os) (started : os.Started) (H : Type) (enc : TypeId × Value → H) :
    ReturnsInHanded {} Tryz.checked os 8 .any (Rows.ruleInsideSpec.pre6 enc Tryz.prog Tryz.f8 Rows.ruleInsideRow.domain false) (Rows.ruleInsideSpec.post enc Tryz.prog Tryz.f8 false true false false) := by
  refine returnsInHanded_of_change (C := Tryz.checked) own started (by kernel_rfl) Tryz.func8
    (ChangeSpec.witness6 (enc := enc) (C := Tryz.checked) false ⟨#[], #[.agg #[.int .i64 0, .int .u32 0, .int .i64 0, .int .u32 0, .int .i64 0, .int .u16 0, .int .u16 0, .int .u16 0, .int .u16 0, .int .u8 0, .int .u8 0, .int .i64 0], .agg #[.int .i64 0, .int .u32 0, .int .i64 0, .int .u32 0, .int .i64 0, .int .u16 0, .int .u16 0, .int .u16 0, .int .u16 0, .int .u8 0, .int .u8 0, .int .i64 0], .agg #[.int .i64 0, .int .u32 0, .int .i64 0, .int .u32 0, .int .i64 0, .int .u16 0, .int .u16 0, .int .u16 0, .int .u16 0, .int .u8 0, .int .u8 0, .int .i64 0], .agg #[.int .u32 0, .int .u32 0, .int .u16 0, .int .u16 0, .int .u8 0]], []⟩ 8 (by kernel_rfl) (by kernel_rfl) (by kernel_rfl) (by kernel_rfl)) ?_
  intro W base args ds gs before hval0 hW hcnd _
  have hval : ∀ (j : Nat) t v, Tryz.f8.params[j]? = some t → args[j]? = some v → Value.okWide Tryz.prog W .any base t v := hval0
  have hW' := hW
  obtain ⟨p, q, hA0, hV, rfl, hfz, hnd⟩ := hW
  have hA : DataW.TrodAll enc Tryz.prog W 0 (fun _ => true) true Tryz.f8.params.toList args.toList ds p := hA0
  rw [Tryz.params8] at hA hval
  obtain ⟨v0, vs0, d0, ds0, p0, q0, hargs, rfl, rfl, h0, r0⟩ := trodAll_cons hA
  obtain ⟨v1, vs1, d1, ds1, p1, q1, rfl, rfl, rfl, h1, r1⟩ := trodAll_cons r0
  obtain ⟨v2, vs2, d2, ds2, p2, q2, rfl, rfl, rfl, h2, r2⟩ := trodAll_cons r1
  obtain ⟨v3, vs3, d3, ds3, p3, q3, rfl, rfl, rfl, h3, r3⟩ := trodAll_cons r2
  obtain ⟨rfl, rfl, rfl⟩ := trodAll_nil r3
  obtain rfl : args = #[v0, v1, v2, v3] := by cases args; simp_all
  obtain ⟨rfl, rfl⟩ := trodVars_none hV
  obtain ⟨g0, rfl, rfl, rfl, o0⟩ := open_ru (hval 0 32 v0 rfl rfl) h0
  obtain ⟨g1, rfl, rfl, rfl, o1⟩ := open_ru (hval 1 32 v1 rfl rfl) h1
  obtain ⟨g2, rfl, rfl, rfl, o2⟩ := open_ru (hval 2 32 v2 rfl rfl) h2
  obtain ⟨g3, rfl, rfl, rfl, o3⟩ := open_hd (hval 3 34 v3 rfl rfl) h3
  clear hA0 hval0
  simp only [List.append_nil] at hW'
  refine (ruleInside_walk g0 o0 g1 o1 g2 o2 g3 o3 W ).mono fun e W' ⟨he, bel⟩ => ?_
  subst he
  exact ⟨_, rfl, _, _, _, [], _, [], hW', trodAll_mk1 (shut_bool Tryz.underlying4 _), (trodAll_cons_mk (shut_ru o0) (trodAll_cons_mk (shut_ru o1) (trodAll_cons_mk (shut_ru o2) (trodAll_cons_mk (shut_hd o3) trodAll_mk0)))), rfl, bel.frame _, fun h => by cases h⟩

/-- The given statement. -/
theorem ruleInside_holds : Rows.RuleInsideSaid :=
  OpenClaim.holds_of_wide 8 Tryz.f8 rfl rfl rfl rfl rfl rfl rfl ⟨rfl, rfl, rfl, rfl, rfl⟩ rfl rfl rfl rfl rfl (by kernel_rfl) Tryz.func8 (by kernel_rfl)
    (of_decide_eq_true (by kernel_rfl)) (by unfold Func.isWrapper; first | (rw [if_pos (by decide +kernel)]; kernel_rfl) | (rw [if_neg (by decide +kernel)]; exact ⟨rfl, rfl⟩))
    (fun os started H enc _ => ruleInside_lifted os started H enc)
#print axioms ruleInside_holds
end Go.Proofs.YtebljklpkoheaaaGreat
