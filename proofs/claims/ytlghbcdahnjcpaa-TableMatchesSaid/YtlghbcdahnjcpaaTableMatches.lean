/-
  For any configuration and any rules that may be, and any header: Match answers the document's first match, twice, another header between (P11.5); the examples of the document hold.
  Conditions: none; the law holds for every input.
-/
import Derived.Test.YtlghbcdahnjcpaaTbX
import Derived.Test.YtlghbcdahnjcpaaTbRk
import Derived.Test.YtlghbcdahnjcpaaTbRs
import Derived.Test.YtlghbcdahnjcpaaTbFr
namespace Go.Proofs.Ytlghbcdahnjcpaa
open Go.ChangeShapes Go.WideShapes Go.ChangeAt Go.RowKit Go.Joins
set_option linter.unusedVariables false
set_option linter.unusedSimpArgs false

set_option maxRecDepth 20000 in
set_option maxHeartbeats 8000000 in
theorem tableMatches_walk (c : Cf) (o : BdC c) (l : List Ru) (u : Value) (bd : ∀ R ∈ l, BdR R) (h : Hd) (oh : OkH h) (g : Hd) (og : OkH g) (w : World) (hs : SrcU w u l) :
    Calls Try.prog 5 #[.agg #[.int .i64 c.m, .int .i64 c.a, .int .i64 c.p, .int .i64 c.g, .int .i64 c.t, .int .i64 c.b, .int .i64 c.d], u, .agg #[.int .u32 (h.s : Int), .int .u32 (h.d : Int), .int .u16 (h.p : Int), .int .u16 (h.q : Int), .int .u8 (h.r : Int)], .agg #[.int .u32 (g.s : Int), .int .u32 (g.d : Int), .int .u16 (g.p : Int), .int .u16 (g.q : Int), .int .u8 (g.r : Int)]] w fun e w' => e = .returned (.bool true) ∧ Below w.heap.size w w' := by
  have hbd : ∀ k (hk : k < l.length), BdR (l[k]'hk) := fun k hk => bd _ (List.getElem_mem hk)
  have hr := fun W => rcheckCC c W
  by_cases hn2 : 2000 < l.length
  · obtain ⟨ad, cap, rfl, hcap, hat⟩ := hs
    clear hat hbd bd
    generalize l.length = n at *
    have hn' : (2000 : Int) < (n : Int) := by omega
    go_enter Try.func5, Try.ntmps5
    go_wp2_with (fail)
    have X1 := bel_a3 w (.cells #[.int .i64 c.m, .int .i64 c.a, .int .i64 c.p, .int .i64 c.g, .int .i64 c.t, .int .i64 c.b, .int .i64 c.d] 24) (.cells #[.int .u32 (h.s : Int), .int .u32 (h.d : Int), .int .u16 (h.p : Int), .int .u16 (h.q : Int), .int .u8 (h.r : Int)] 45) (.cells #[.int .u32 (g.s : Int), .int .u32 (g.d : Int), .int .u16 (g.p : Int), .int .u16 (g.q : Int), .int .u8 (g.r : Int)] 45)
    have Nc1 : (((w.alloc (.cells #[.int .i64 c.m, .int .i64 c.a, .int .i64 c.p, .int .i64 c.g, .int .i64 c.t, .int .i64 c.b, .int .i64 c.d] 24)).alloc (.cells #[.int .u32 (h.s : Int), .int .u32 (h.d : Int), .int .u16 (h.p : Int), .int .u16 (h.q : Int), .int .u8 (h.r : Int)] 45)).alloc (.cells #[.int .u32 (g.s : Int), .int .u32 (g.d : Int), .int .u16 (g.p : Int), .int .u16 (g.q : Int), .int .u8 (g.r : Int)] 45)).heap[w.heap.size]? = some (.cells #[.int .i64 c.m, .int .i64 c.a, .int .i64 c.p, .int .i64 c.g, .int .i64 c.t, .int .i64 c.b, .int .i64 c.d] 24) := (blk_alloc (blk_alloc (blk_new w (.cells #[.int .i64 c.m, .int .i64 c.a, .int .i64 c.p, .int .i64 c.g, .int .i64 c.t, .int .i64 c.b, .int .i64 c.d] 24)) _) _)
    have Nh1 : (((w.alloc (.cells #[.int .i64 c.m, .int .i64 c.a, .int .i64 c.p, .int .i64 c.g, .int .i64 c.t, .int .i64 c.b, .int .i64 c.d] 24)).alloc (.cells #[.int .u32 (h.s : Int), .int .u32 (h.d : Int), .int .u16 (h.p : Int), .int .u16 (h.q : Int), .int .u8 (h.r : Int)] 45)).alloc (.cells #[.int .u32 (g.s : Int), .int .u32 (g.d : Int), .int .u16 (g.p : Int), .int .u16 (g.q : Int), .int .u8 (g.r : Int)] 45)).heap[w.heap.size + 1]? = some (.cells #[.int .u32 (h.s : Int), .int .u32 (h.d : Int), .int .u16 (h.p : Int), .int .u16 (h.q : Int), .int .u8 (h.r : Int)] 45) := (blk_alloc (by simpa using blk_new (w.alloc (.cells #[.int .i64 c.m, .int .i64 c.a, .int .i64 c.p, .int .i64 c.g, .int .i64 c.t, .int .i64 c.b, .int .i64 c.d] 24)) (.cells #[.int .u32 (h.s : Int), .int .u32 (h.d : Int), .int .u16 (h.p : Int), .int .u16 (h.q : Int), .int .u8 (h.r : Int)] 45)) _)
    have Ng1 : (((w.alloc (.cells #[.int .i64 c.m, .int .i64 c.a, .int .i64 c.p, .int .i64 c.g, .int .i64 c.t, .int .i64 c.b, .int .i64 c.d] 24)).alloc (.cells #[.int .u32 (h.s : Int), .int .u32 (h.d : Int), .int .u16 (h.p : Int), .int .u16 (h.q : Int), .int .u8 (h.r : Int)] 45)).alloc (.cells #[.int .u32 (g.s : Int), .int .u32 (g.d : Int), .int .u16 (g.p : Int), .int .u16 (g.q : Int), .int .u8 (g.r : Int)] 45)).heap[w.heap.size + 1 + 1]? = some (.cells #[.int .u32 (g.s : Int), .int .u32 (g.d : Int), .int .u16 (g.p : Int), .int .u16 (g.q : Int), .int .u8 (g.r : Int)] 45) := (by simpa using blk_new ((w.alloc (.cells #[.int .i64 c.m, .int .i64 c.a, .int .i64 c.p, .int .i64 c.g, .int .i64 c.t, .int .i64 c.b, .int .i64 c.d] 24)).alloc (.cells #[.int .u32 (h.s : Int), .int .u32 (h.d : Int), .int .u16 (h.p : Int), .int .u16 (h.q : Int), .int .u8 (h.r : Int)] 45)) (.cells #[.int .u32 (g.s : Int), .int .u32 (g.d : Int), .int .u16 (g.p : Int), .int .u16 (g.q : Int), .int .u8 (g.r : Int)] 45))
    refine (awakeT _).mono ?_
    rintro e W1 ⟨rfl, hb⟩
    have HB1 : Hid (Below w.heap.size w W1) := bel_step (Below.refl _ _) X1 hb
    have Kc1 : Hid (W1.heap[w.heap.size]? = some (.cells #[.int .i64 c.m, .int .i64 c.a, .int .i64 c.p, .int .i64 c.g, .int .i64 c.t, .int .i64 c.b, .int .i64 c.d] 24)) := blk_on Nc1 hb
    have Kh1 : Hid (W1.heap[w.heap.size + 1]? = some (.cells #[.int .u32 (h.s : Int), .int .u32 (h.d : Int), .int .u16 (h.p : Int), .int .u16 (h.q : Int), .int .u8 (h.r : Int)] 45)) := blk_on Nh1 hb
    have Kg1 : Hid (W1.heap[w.heap.size + 1 + 1]? = some (.cells #[.int .u32 (g.s : Int), .int .u32 (g.d : Int), .int .u16 (g.p : Int), .int .u16 (g.q : Int), .int .u8 (g.r : Int)] 45)) := blk_on Ng1 hb
    clear X1 hb Nc1 Nh1 Ng1
    go_wp2_with (fail)
    go_ret
    exact ⟨rfl, HB1.out⟩

  · have hl2 : l.length ≤ 200000 := by omega
    cases hok : okC c
    · have e : errC c = 110 := by unfold errC; rw [hok]; rfl
      rw [e] at hr
      obtain ⟨ad, cap, rfl, hcap, hat⟩ := hs
      clear hat hbd bd hok e o
      generalize l.length = n at *
      have hn' : ¬ (2000 : Int) < (n : Int) := by omega
      go_enter Try.func5, Try.ntmps5
      have x0 : (((w.alloc (.cells #[.int .i64 c.m, .int .i64 c.a, .int .i64 c.p, .int .i64 c.g, .int .i64 c.t, .int .i64 c.b, .int .i64 c.d] 24)).alloc (.cells #[.int .u32 (h.s : Int), .int .u32 (h.d : Int), .int .u16 (h.p : Int), .int .u16 (h.q : Int), .int .u8 (h.r : Int)] 45)).alloc (.cells #[.int .u32 (g.s : Int), .int .u32 (g.d : Int), .int .u16 (g.p : Int), .int .u16 (g.q : Int), .int .u8 (g.r : Int)] 45)).cell? ⟨w.heap.size, 0, none⟩ = some (.int .i64 c.m) := blk_cell (blk_alloc (blk_alloc (blk_new w _) _) _) rfl
      have x1 : (((w.alloc (.cells #[.int .i64 c.m, .int .i64 c.a, .int .i64 c.p, .int .i64 c.g, .int .i64 c.t, .int .i64 c.b, .int .i64 c.d] 24)).alloc (.cells #[.int .u32 (h.s : Int), .int .u32 (h.d : Int), .int .u16 (h.p : Int), .int .u16 (h.q : Int), .int .u8 (h.r : Int)] 45)).alloc (.cells #[.int .u32 (g.s : Int), .int .u32 (g.d : Int), .int .u16 (g.p : Int), .int .u16 (g.q : Int), .int .u8 (g.r : Int)] 45)).cell? ⟨w.heap.size, 1, none⟩ = some (.int .i64 c.a) := blk_cell (blk_alloc (blk_alloc (blk_new w _) _) _) rfl
      have x2 : (((w.alloc (.cells #[.int .i64 c.m, .int .i64 c.a, .int .i64 c.p, .int .i64 c.g, .int .i64 c.t, .int .i64 c.b, .int .i64 c.d] 24)).alloc (.cells #[.int .u32 (h.s : Int), .int .u32 (h.d : Int), .int .u16 (h.p : Int), .int .u16 (h.q : Int), .int .u8 (h.r : Int)] 45)).alloc (.cells #[.int .u32 (g.s : Int), .int .u32 (g.d : Int), .int .u16 (g.p : Int), .int .u16 (g.q : Int), .int .u8 (g.r : Int)] 45)).cell? ⟨w.heap.size, 2, none⟩ = some (.int .i64 c.p) := blk_cell (blk_alloc (blk_alloc (blk_new w _) _) _) rfl
      have x3 : (((w.alloc (.cells #[.int .i64 c.m, .int .i64 c.a, .int .i64 c.p, .int .i64 c.g, .int .i64 c.t, .int .i64 c.b, .int .i64 c.d] 24)).alloc (.cells #[.int .u32 (h.s : Int), .int .u32 (h.d : Int), .int .u16 (h.p : Int), .int .u16 (h.q : Int), .int .u8 (h.r : Int)] 45)).alloc (.cells #[.int .u32 (g.s : Int), .int .u32 (g.d : Int), .int .u16 (g.p : Int), .int .u16 (g.q : Int), .int .u8 (g.r : Int)] 45)).cell? ⟨w.heap.size, 3, none⟩ = some (.int .i64 c.g) := blk_cell (blk_alloc (blk_alloc (blk_new w _) _) _) rfl
      have x4 : (((w.alloc (.cells #[.int .i64 c.m, .int .i64 c.a, .int .i64 c.p, .int .i64 c.g, .int .i64 c.t, .int .i64 c.b, .int .i64 c.d] 24)).alloc (.cells #[.int .u32 (h.s : Int), .int .u32 (h.d : Int), .int .u16 (h.p : Int), .int .u16 (h.q : Int), .int .u8 (h.r : Int)] 45)).alloc (.cells #[.int .u32 (g.s : Int), .int .u32 (g.d : Int), .int .u16 (g.p : Int), .int .u16 (g.q : Int), .int .u8 (g.r : Int)] 45)).cell? ⟨w.heap.size, 4, none⟩ = some (.int .i64 c.t) := blk_cell (blk_alloc (blk_alloc (blk_new w _) _) _) rfl
      have x5 : (((w.alloc (.cells #[.int .i64 c.m, .int .i64 c.a, .int .i64 c.p, .int .i64 c.g, .int .i64 c.t, .int .i64 c.b, .int .i64 c.d] 24)).alloc (.cells #[.int .u32 (h.s : Int), .int .u32 (h.d : Int), .int .u16 (h.p : Int), .int .u16 (h.q : Int), .int .u8 (h.r : Int)] 45)).alloc (.cells #[.int .u32 (g.s : Int), .int .u32 (g.d : Int), .int .u16 (g.p : Int), .int .u16 (g.q : Int), .int .u8 (g.r : Int)] 45)).cell? ⟨w.heap.size, 5, none⟩ = some (.int .i64 c.b) := blk_cell (blk_alloc (blk_alloc (blk_new w _) _) _) rfl
      have x6 : (((w.alloc (.cells #[.int .i64 c.m, .int .i64 c.a, .int .i64 c.p, .int .i64 c.g, .int .i64 c.t, .int .i64 c.b, .int .i64 c.d] 24)).alloc (.cells #[.int .u32 (h.s : Int), .int .u32 (h.d : Int), .int .u16 (h.p : Int), .int .u16 (h.q : Int), .int .u8 (h.r : Int)] 45)).alloc (.cells #[.int .u32 (g.s : Int), .int .u32 (g.d : Int), .int .u16 (g.p : Int), .int .u16 (g.q : Int), .int .u8 (g.r : Int)] 45)).cell? ⟨w.heap.size, 6, none⟩ = some (.int .i64 c.d) := blk_cell (blk_alloc (blk_alloc (blk_new w _) _) _) rfl
      go_wp2_with (fail)
      clear x0 x1 x2 x3 x4 x5 x6
      have X1 := bel_a3 w (.cells #[.int .i64 c.m, .int .i64 c.a, .int .i64 c.p, .int .i64 c.g, .int .i64 c.t, .int .i64 c.b, .int .i64 c.d] 24) (.cells #[.int .u32 (h.s : Int), .int .u32 (h.d : Int), .int .u16 (h.p : Int), .int .u16 (h.q : Int), .int .u8 (h.r : Int)] 45) (.cells #[.int .u32 (g.s : Int), .int .u32 (g.d : Int), .int .u16 (g.p : Int), .int .u16 (g.q : Int), .int .u8 (g.r : Int)] 45)
      have Nc1 : (((w.alloc (.cells #[.int .i64 c.m, .int .i64 c.a, .int .i64 c.p, .int .i64 c.g, .int .i64 c.t, .int .i64 c.b, .int .i64 c.d] 24)).alloc (.cells #[.int .u32 (h.s : Int), .int .u32 (h.d : Int), .int .u16 (h.p : Int), .int .u16 (h.q : Int), .int .u8 (h.r : Int)] 45)).alloc (.cells #[.int .u32 (g.s : Int), .int .u32 (g.d : Int), .int .u16 (g.p : Int), .int .u16 (g.q : Int), .int .u8 (g.r : Int)] 45)).heap[w.heap.size]? = some (.cells #[.int .i64 c.m, .int .i64 c.a, .int .i64 c.p, .int .i64 c.g, .int .i64 c.t, .int .i64 c.b, .int .i64 c.d] 24) := (blk_alloc (blk_alloc (blk_new w (.cells #[.int .i64 c.m, .int .i64 c.a, .int .i64 c.p, .int .i64 c.g, .int .i64 c.t, .int .i64 c.b, .int .i64 c.d] 24)) _) _)
      have Nh1 : (((w.alloc (.cells #[.int .i64 c.m, .int .i64 c.a, .int .i64 c.p, .int .i64 c.g, .int .i64 c.t, .int .i64 c.b, .int .i64 c.d] 24)).alloc (.cells #[.int .u32 (h.s : Int), .int .u32 (h.d : Int), .int .u16 (h.p : Int), .int .u16 (h.q : Int), .int .u8 (h.r : Int)] 45)).alloc (.cells #[.int .u32 (g.s : Int), .int .u32 (g.d : Int), .int .u16 (g.p : Int), .int .u16 (g.q : Int), .int .u8 (g.r : Int)] 45)).heap[w.heap.size + 1]? = some (.cells #[.int .u32 (h.s : Int), .int .u32 (h.d : Int), .int .u16 (h.p : Int), .int .u16 (h.q : Int), .int .u8 (h.r : Int)] 45) := (blk_alloc (by simpa using blk_new (w.alloc (.cells #[.int .i64 c.m, .int .i64 c.a, .int .i64 c.p, .int .i64 c.g, .int .i64 c.t, .int .i64 c.b, .int .i64 c.d] 24)) (.cells #[.int .u32 (h.s : Int), .int .u32 (h.d : Int), .int .u16 (h.p : Int), .int .u16 (h.q : Int), .int .u8 (h.r : Int)] 45)) _)
      have Ng1 : (((w.alloc (.cells #[.int .i64 c.m, .int .i64 c.a, .int .i64 c.p, .int .i64 c.g, .int .i64 c.t, .int .i64 c.b, .int .i64 c.d] 24)).alloc (.cells #[.int .u32 (h.s : Int), .int .u32 (h.d : Int), .int .u16 (h.p : Int), .int .u16 (h.q : Int), .int .u8 (h.r : Int)] 45)).alloc (.cells #[.int .u32 (g.s : Int), .int .u32 (g.d : Int), .int .u16 (g.p : Int), .int .u16 (g.q : Int), .int .u8 (g.r : Int)] 45)).heap[w.heap.size + 1 + 1]? = some (.cells #[.int .u32 (g.s : Int), .int .u32 (g.d : Int), .int .u16 (g.p : Int), .int .u16 (g.q : Int), .int .u8 (g.r : Int)] 45) := (by simpa using blk_new ((w.alloc (.cells #[.int .i64 c.m, .int .i64 c.a, .int .i64 c.p, .int .i64 c.g, .int .i64 c.t, .int .i64 c.b, .int .i64 c.d] 24)).alloc (.cells #[.int .u32 (h.s : Int), .int .u32 (h.d : Int), .int .u16 (h.p : Int), .int .u16 (h.q : Int), .int .u8 (h.r : Int)] 45)) (.cells #[.int .u32 (g.s : Int), .int .u32 (g.d : Int), .int .u16 (g.p : Int), .int .u16 (g.q : Int), .int .u8 (g.r : Int)] 45))
      refine (hr _).mono ?_
      rintro e W1 ⟨rfl, hb⟩
      have HB1 : Hid (Below w.heap.size w W1) := bel_step (Below.refl _ _) X1 hb
      have Kc1 : Hid (W1.heap[w.heap.size]? = some (.cells #[.int .i64 c.m, .int .i64 c.a, .int .i64 c.p, .int .i64 c.g, .int .i64 c.t, .int .i64 c.b, .int .i64 c.d] 24)) := blk_on Nc1 hb
      have Kh1 : Hid (W1.heap[w.heap.size + 1]? = some (.cells #[.int .u32 (h.s : Int), .int .u32 (h.d : Int), .int .u16 (h.p : Int), .int .u16 (h.q : Int), .int .u8 (h.r : Int)] 45)) := blk_on Nh1 hb
      have Kg1 : Hid (W1.heap[w.heap.size + 1 + 1]? = some (.cells #[.int .u32 (g.s : Int), .int .u32 (g.d : Int), .int .u16 (g.p : Int), .int .u16 (g.q : Int), .int .u8 (g.r : Int)] 45)) := blk_on Ng1 hb
      clear X1 hb Nc1 Nh1 Ng1
      go_wp2_with (fail)
      have X2 := bel_a0 W1
      refine (awakeT _).mono ?_
      rintro e W2 ⟨rfl, hb⟩
      have HB2 : Hid (Below w.heap.size w W2) := bel_step (HB1.out) X2 hb
      have Kc2 : Hid (W2.heap[w.heap.size]? = some (.cells #[.int .i64 c.m, .int .i64 c.a, .int .i64 c.p, .int .i64 c.g, .int .i64 c.t, .int .i64 c.b, .int .i64 c.d] 24)) := blk_on (blk_on Kc1.out X2) hb
      have Kh2 : Hid (W2.heap[w.heap.size + 1]? = some (.cells #[.int .u32 (h.s : Int), .int .u32 (h.d : Int), .int .u16 (h.p : Int), .int .u16 (h.q : Int), .int .u8 (h.r : Int)] 45)) := blk_on (blk_on Kh1.out X2) hb
      have Kg2 : Hid (W2.heap[w.heap.size + 1 + 1]? = some (.cells #[.int .u32 (g.s : Int), .int .u32 (g.d : Int), .int .u16 (g.p : Int), .int .u16 (g.q : Int), .int .u8 (g.r : Int)] 45)) := blk_on (blk_on Kg1.out X2) hb
      clear X2 hb HB1
      try clear Kc1
      try clear Kh1
      try clear Kg1
      go_wp2_with (fail)
      go_ret
      exact ⟨rfl, HB2.out⟩

    · have e : errC c = 0 := by unfold errC; rw [hok]; rfl
      rw [e] at hr
      obtain ⟨E, hE⟩ : ∃ E, E = setE l c.m := ⟨_, rfl⟩
      have hrs : ∀ W : World, Below w.heap.size w W → Calls Try.prog 16 #[u, .int .i64 c.m] W fun e w' => e = .returned (.int .i64 E) ∧ Below W.heap.size W w' := fun W hb => by
        rw [hE]
        exact rsetC u l c.m W (hs.keep hb) hl2 hbd
      by_cases hE0 : E = 0
      · subst hE0
        have hnw := fun W => newOk c o hok W
        have hset : ∀ (t : Nat) (v : Value) (W : World), Tab W t v c.m c.a [] → Below w.heap.size w W → Calls Try.prog 17 #[.pointer (some ⟨t, 0, none⟩), u] W fun e w' => e = .returned (.int .i64 0) ∧ ∃ v', Tab w' t v' c.m c.a l ∧ Moved W w' t v v' := fun t v W hT hb => by
          have := setC t v c.m c.a [] u l W hT (hs.keep hb) hl2 o.1 hbd
          rw [← hE, if_pos rfl] at this
          exact this
        obtain ⟨B1, hB1⟩ : ∃ B1, B1 = vdH (mat l h) := ⟨_, rfl⟩
        obtain ⟨I1, hI1⟩ : ∃ I1, I1 = vdI l (mat l h) := ⟨_, rfl⟩
        obtain ⟨A1, hA1⟩ : ∃ A1, A1 = vdA c.a l (mat l h) := ⟨_, rfl⟩
        obtain ⟨M1, hM1⟩ : ∃ M1, M1 = mat l h := ⟨_, rfl⟩
        have hm : ∀ (t : Nat) (v : Value) (W : World), Tab W t v c.m c.a l → Calls Try.prog 19 #[.pointer (some ⟨t, 0, none⟩), .agg #[.int .u32 (h.s : Int), .int .u32 (h.d : Int), .int .u16 (h.p : Int), .int .u16 (h.q : Int), .int .u8 (h.r : Int)]] W fun e w' => e = .returned (.tuple #[.agg #[.bool B1, .int .i64 I1, .int .i64 A1], .int .i64 M1]) ∧ Below W.heap.size W w' := fun t v W hT => by
          rw [hB1, hI1, hA1, hM1]
          exact matchT t v c.m c.a l h W hT hl2 hbd oh
        have hmg := fun (t : Nat) (v : Value) (W : World) (hT : Tab W t v c.m c.a l) => matchT t v c.m c.a l g W hT hl2 hbd og
        have hrm : ∀ W : World, Below w.heap.size w W → Calls Try.prog 18 #[u, .int .i64 c.a, .agg #[.int .u32 (h.s : Int), .int .u32 (h.d : Int), .int .u16 (h.p : Int), .int .u16 (h.q : Int), .int .u8 (h.r : Int)]] W fun e w' => e = .returned (.tuple #[.agg #[.bool B1, .int .i64 I1, .int .i64 A1], .int .i64 M1]) ∧ Below W.heap.size W w' := fun W hb => by
          rw [hB1, hI1, hA1, hM1]
          exact rmatchL u l c.a h W (hs.keep hb) hl2 hbd oh
        obtain ⟨n, hn⟩ : ∃ n, n = l.length := ⟨_, rfl⟩
        obtain ⟨ad, cap, rfl, hcap, hat⟩ := hs
        rw [← hn] at hn2 hset hrs hrm ⊢
        clear hat hbd bd hok e o hn hE hB1 hI1 hA1 hM1
        have hn' : ¬ (2000 : Int) < (n : Int) := by omega
        go_enter Try.func5, Try.ntmps5
        have x0 : (((w.alloc (.cells #[.int .i64 c.m, .int .i64 c.a, .int .i64 c.p, .int .i64 c.g, .int .i64 c.t, .int .i64 c.b, .int .i64 c.d] 24)).alloc (.cells #[.int .u32 (h.s : Int), .int .u32 (h.d : Int), .int .u16 (h.p : Int), .int .u16 (h.q : Int), .int .u8 (h.r : Int)] 45)).alloc (.cells #[.int .u32 (g.s : Int), .int .u32 (g.d : Int), .int .u16 (g.p : Int), .int .u16 (g.q : Int), .int .u8 (g.r : Int)] 45)).cell? ⟨w.heap.size, 0, none⟩ = some (.int .i64 c.m) := blk_cell (blk_alloc (blk_alloc (blk_new w _) _) _) rfl
        have x1 : (((w.alloc (.cells #[.int .i64 c.m, .int .i64 c.a, .int .i64 c.p, .int .i64 c.g, .int .i64 c.t, .int .i64 c.b, .int .i64 c.d] 24)).alloc (.cells #[.int .u32 (h.s : Int), .int .u32 (h.d : Int), .int .u16 (h.p : Int), .int .u16 (h.q : Int), .int .u8 (h.r : Int)] 45)).alloc (.cells #[.int .u32 (g.s : Int), .int .u32 (g.d : Int), .int .u16 (g.p : Int), .int .u16 (g.q : Int), .int .u8 (g.r : Int)] 45)).cell? ⟨w.heap.size, 1, none⟩ = some (.int .i64 c.a) := blk_cell (blk_alloc (blk_alloc (blk_new w _) _) _) rfl
        have x2 : (((w.alloc (.cells #[.int .i64 c.m, .int .i64 c.a, .int .i64 c.p, .int .i64 c.g, .int .i64 c.t, .int .i64 c.b, .int .i64 c.d] 24)).alloc (.cells #[.int .u32 (h.s : Int), .int .u32 (h.d : Int), .int .u16 (h.p : Int), .int .u16 (h.q : Int), .int .u8 (h.r : Int)] 45)).alloc (.cells #[.int .u32 (g.s : Int), .int .u32 (g.d : Int), .int .u16 (g.p : Int), .int .u16 (g.q : Int), .int .u8 (g.r : Int)] 45)).cell? ⟨w.heap.size, 2, none⟩ = some (.int .i64 c.p) := blk_cell (blk_alloc (blk_alloc (blk_new w _) _) _) rfl
        have x3 : (((w.alloc (.cells #[.int .i64 c.m, .int .i64 c.a, .int .i64 c.p, .int .i64 c.g, .int .i64 c.t, .int .i64 c.b, .int .i64 c.d] 24)).alloc (.cells #[.int .u32 (h.s : Int), .int .u32 (h.d : Int), .int .u16 (h.p : Int), .int .u16 (h.q : Int), .int .u8 (h.r : Int)] 45)).alloc (.cells #[.int .u32 (g.s : Int), .int .u32 (g.d : Int), .int .u16 (g.p : Int), .int .u16 (g.q : Int), .int .u8 (g.r : Int)] 45)).cell? ⟨w.heap.size, 3, none⟩ = some (.int .i64 c.g) := blk_cell (blk_alloc (blk_alloc (blk_new w _) _) _) rfl
        have x4 : (((w.alloc (.cells #[.int .i64 c.m, .int .i64 c.a, .int .i64 c.p, .int .i64 c.g, .int .i64 c.t, .int .i64 c.b, .int .i64 c.d] 24)).alloc (.cells #[.int .u32 (h.s : Int), .int .u32 (h.d : Int), .int .u16 (h.p : Int), .int .u16 (h.q : Int), .int .u8 (h.r : Int)] 45)).alloc (.cells #[.int .u32 (g.s : Int), .int .u32 (g.d : Int), .int .u16 (g.p : Int), .int .u16 (g.q : Int), .int .u8 (g.r : Int)] 45)).cell? ⟨w.heap.size, 4, none⟩ = some (.int .i64 c.t) := blk_cell (blk_alloc (blk_alloc (blk_new w _) _) _) rfl
        have x5 : (((w.alloc (.cells #[.int .i64 c.m, .int .i64 c.a, .int .i64 c.p, .int .i64 c.g, .int .i64 c.t, .int .i64 c.b, .int .i64 c.d] 24)).alloc (.cells #[.int .u32 (h.s : Int), .int .u32 (h.d : Int), .int .u16 (h.p : Int), .int .u16 (h.q : Int), .int .u8 (h.r : Int)] 45)).alloc (.cells #[.int .u32 (g.s : Int), .int .u32 (g.d : Int), .int .u16 (g.p : Int), .int .u16 (g.q : Int), .int .u8 (g.r : Int)] 45)).cell? ⟨w.heap.size, 5, none⟩ = some (.int .i64 c.b) := blk_cell (blk_alloc (blk_alloc (blk_new w _) _) _) rfl
        have x6 : (((w.alloc (.cells #[.int .i64 c.m, .int .i64 c.a, .int .i64 c.p, .int .i64 c.g, .int .i64 c.t, .int .i64 c.b, .int .i64 c.d] 24)).alloc (.cells #[.int .u32 (h.s : Int), .int .u32 (h.d : Int), .int .u16 (h.p : Int), .int .u16 (h.q : Int), .int .u8 (h.r : Int)] 45)).alloc (.cells #[.int .u32 (g.s : Int), .int .u32 (g.d : Int), .int .u16 (g.p : Int), .int .u16 (g.q : Int), .int .u8 (g.r : Int)] 45)).cell? ⟨w.heap.size, 6, none⟩ = some (.int .i64 c.d) := blk_cell (blk_alloc (blk_alloc (blk_new w _) _) _) rfl
        go_wp2_with (fail)
        clear x0 x1 x2 x3 x4 x5 x6
        have X1 := bel_a3 w (.cells #[.int .i64 c.m, .int .i64 c.a, .int .i64 c.p, .int .i64 c.g, .int .i64 c.t, .int .i64 c.b, .int .i64 c.d] 24) (.cells #[.int .u32 (h.s : Int), .int .u32 (h.d : Int), .int .u16 (h.p : Int), .int .u16 (h.q : Int), .int .u8 (h.r : Int)] 45) (.cells #[.int .u32 (g.s : Int), .int .u32 (g.d : Int), .int .u16 (g.p : Int), .int .u16 (g.q : Int), .int .u8 (g.r : Int)] 45)
        have Nc1 : (((w.alloc (.cells #[.int .i64 c.m, .int .i64 c.a, .int .i64 c.p, .int .i64 c.g, .int .i64 c.t, .int .i64 c.b, .int .i64 c.d] 24)).alloc (.cells #[.int .u32 (h.s : Int), .int .u32 (h.d : Int), .int .u16 (h.p : Int), .int .u16 (h.q : Int), .int .u8 (h.r : Int)] 45)).alloc (.cells #[.int .u32 (g.s : Int), .int .u32 (g.d : Int), .int .u16 (g.p : Int), .int .u16 (g.q : Int), .int .u8 (g.r : Int)] 45)).heap[w.heap.size]? = some (.cells #[.int .i64 c.m, .int .i64 c.a, .int .i64 c.p, .int .i64 c.g, .int .i64 c.t, .int .i64 c.b, .int .i64 c.d] 24) := (blk_alloc (blk_alloc (blk_new w (.cells #[.int .i64 c.m, .int .i64 c.a, .int .i64 c.p, .int .i64 c.g, .int .i64 c.t, .int .i64 c.b, .int .i64 c.d] 24)) _) _)
        have Nh1 : (((w.alloc (.cells #[.int .i64 c.m, .int .i64 c.a, .int .i64 c.p, .int .i64 c.g, .int .i64 c.t, .int .i64 c.b, .int .i64 c.d] 24)).alloc (.cells #[.int .u32 (h.s : Int), .int .u32 (h.d : Int), .int .u16 (h.p : Int), .int .u16 (h.q : Int), .int .u8 (h.r : Int)] 45)).alloc (.cells #[.int .u32 (g.s : Int), .int .u32 (g.d : Int), .int .u16 (g.p : Int), .int .u16 (g.q : Int), .int .u8 (g.r : Int)] 45)).heap[w.heap.size + 1]? = some (.cells #[.int .u32 (h.s : Int), .int .u32 (h.d : Int), .int .u16 (h.p : Int), .int .u16 (h.q : Int), .int .u8 (h.r : Int)] 45) := (blk_alloc (by simpa using blk_new (w.alloc (.cells #[.int .i64 c.m, .int .i64 c.a, .int .i64 c.p, .int .i64 c.g, .int .i64 c.t, .int .i64 c.b, .int .i64 c.d] 24)) (.cells #[.int .u32 (h.s : Int), .int .u32 (h.d : Int), .int .u16 (h.p : Int), .int .u16 (h.q : Int), .int .u8 (h.r : Int)] 45)) _)
        have Ng1 : (((w.alloc (.cells #[.int .i64 c.m, .int .i64 c.a, .int .i64 c.p, .int .i64 c.g, .int .i64 c.t, .int .i64 c.b, .int .i64 c.d] 24)).alloc (.cells #[.int .u32 (h.s : Int), .int .u32 (h.d : Int), .int .u16 (h.p : Int), .int .u16 (h.q : Int), .int .u8 (h.r : Int)] 45)).alloc (.cells #[.int .u32 (g.s : Int), .int .u32 (g.d : Int), .int .u16 (g.p : Int), .int .u16 (g.q : Int), .int .u8 (g.r : Int)] 45)).heap[w.heap.size + 1 + 1]? = some (.cells #[.int .u32 (g.s : Int), .int .u32 (g.d : Int), .int .u16 (g.p : Int), .int .u16 (g.q : Int), .int .u8 (g.r : Int)] 45) := (by simpa using blk_new ((w.alloc (.cells #[.int .i64 c.m, .int .i64 c.a, .int .i64 c.p, .int .i64 c.g, .int .i64 c.t, .int .i64 c.b, .int .i64 c.d] 24)).alloc (.cells #[.int .u32 (h.s : Int), .int .u32 (h.d : Int), .int .u16 (h.p : Int), .int .u16 (h.q : Int), .int .u8 (h.r : Int)] 45)) (.cells #[.int .u32 (g.s : Int), .int .u32 (g.d : Int), .int .u16 (g.p : Int), .int .u16 (g.q : Int), .int .u8 (g.r : Int)] 45))
        refine (hr _).mono ?_
        rintro e W1 ⟨rfl, hb⟩
        have HB1 : Hid (Below w.heap.size w W1) := bel_step (Below.refl _ _) X1 hb
        have Kc1 : Hid (W1.heap[w.heap.size]? = some (.cells #[.int .i64 c.m, .int .i64 c.a, .int .i64 c.p, .int .i64 c.g, .int .i64 c.t, .int .i64 c.b, .int .i64 c.d] 24)) := blk_on Nc1 hb
        have Kh1 : Hid (W1.heap[w.heap.size + 1]? = some (.cells #[.int .u32 (h.s : Int), .int .u32 (h.d : Int), .int .u16 (h.p : Int), .int .u16 (h.q : Int), .int .u8 (h.r : Int)] 45)) := blk_on Nh1 hb
        have Kg1 : Hid (W1.heap[w.heap.size + 1 + 1]? = some (.cells #[.int .u32 (g.s : Int), .int .u32 (g.d : Int), .int .u16 (g.p : Int), .int .u16 (g.q : Int), .int .u8 (g.r : Int)] 45)) := blk_on Ng1 hb
        clear X1 hb Nc1 Nh1 Ng1
        have x0 := blk_cell Kc1.out (j := 0) rfl
        have x1 := blk_cell Kc1.out (j := 1) rfl
        have x2 := blk_cell Kc1.out (j := 2) rfl
        have x3 := blk_cell Kc1.out (j := 3) rfl
        have x4 := blk_cell Kc1.out (j := 4) rfl
        have x5 := blk_cell Kc1.out (j := 5) rfl
        have x6 := blk_cell Kc1.out (j := 6) rfl
        go_wp2_with (fail)
        clear x0 x1 x2 x3 x4 x5 x6
        have X2 := bel_a0 W1
        refine (hrs _ (bel_step (HB1.out) X2 (Below.refl _ _))).mono ?_
        rintro e W2 ⟨rfl, hb⟩
        have HB2 : Hid (Below w.heap.size w W2) := bel_step (HB1.out) X2 hb
        have Kc2 : Hid (W2.heap[w.heap.size]? = some (.cells #[.int .i64 c.m, .int .i64 c.a, .int .i64 c.p, .int .i64 c.g, .int .i64 c.t, .int .i64 c.b, .int .i64 c.d] 24)) := blk_on (blk_on Kc1.out X2) hb
        have Kh2 : Hid (W2.heap[w.heap.size + 1]? = some (.cells #[.int .u32 (h.s : Int), .int .u32 (h.d : Int), .int .u16 (h.p : Int), .int .u16 (h.q : Int), .int .u8 (h.r : Int)] 45)) := blk_on (blk_on Kh1.out X2) hb
        have Kg2 : Hid (W2.heap[w.heap.size + 1 + 1]? = some (.cells #[.int .u32 (g.s : Int), .int .u32 (g.d : Int), .int .u16 (g.p : Int), .int .u16 (g.q : Int), .int .u8 (g.r : Int)] 45)) := blk_on (blk_on Kg1.out X2) hb
        clear X2 hb HB1
        try clear Kc1
        try clear Kh1
        try clear Kg1
        have x0 := blk_cell Kc2.out (j := 0) rfl
        have x1 := blk_cell Kc2.out (j := 1) rfl
        have x2 := blk_cell Kc2.out (j := 2) rfl
        have x3 := blk_cell Kc2.out (j := 3) rfl
        have x4 := blk_cell Kc2.out (j := 4) rfl
        have x5 := blk_cell Kc2.out (j := 5) rfl
        have x6 := blk_cell Kc2.out (j := 6) rfl
        go_wp2_with (fail)
        clear x0 x1 x2 x3 x4 x5 x6
        have X3 := bel_a0 W2
        refine (hnw _).mono ?_
        rintro e W3 ⟨t, rfl, hT, ht, hb⟩
        have HB3 : Hid (Below w.heap.size w W3) := bel_step (HB2.out) X3 hb
        have HT3 : Hid (Tab W3 t (.slice none 0 0) c.m c.a []) := hT
        have Htw : Hid (w.heap.size ≤ t) := Nat.le_trans (bel_step (HB2.out) X3 (Below.refl _ _)).size ht
        have HG3 : Hid (∀ k, (Value.slice none 0 0).ownBlock = some k → w.heap.size ≤ k) := fun k e => by cases e
        have Kc3 : Hid (Kb W3 t (.slice none 0 0) (w.heap.size) (.cells #[.int .i64 c.m, .int .i64 c.a, .int .i64 c.p, .int .i64 c.g, .int .i64 c.t, .int .i64 c.b, .int .i64 c.d] 24)) := ⟨blk_on (blk_on Kc2.out X3) hb, by have := blk_lt (blk_on Kc2.out X3); omega, fun e => by cases e⟩
        have Kh3 : Hid (Kb W3 t (.slice none 0 0) (w.heap.size + 1) (.cells #[.int .u32 (h.s : Int), .int .u32 (h.d : Int), .int .u16 (h.p : Int), .int .u16 (h.q : Int), .int .u8 (h.r : Int)] 45)) := ⟨blk_on (blk_on Kh2.out X3) hb, by have := blk_lt (blk_on Kh2.out X3); omega, fun e => by cases e⟩
        have Kg3 : Hid (Kb W3 t (.slice none 0 0) (w.heap.size + 1 + 1) (.cells #[.int .u32 (g.s : Int), .int .u32 (g.d : Int), .int .u16 (g.p : Int), .int .u16 (g.q : Int), .int .u8 (g.r : Int)] 45)) := ⟨blk_on (blk_on Kg2.out X3) hb, by have := blk_lt (blk_on Kg2.out X3); omega, fun e => by cases e⟩
        clear X3 hb hT ht HB2
        try clear Kc2
        try clear Kh2
        try clear Kg2
        go_wp2_with (fail)
        have X4 := bel_a0 W3
        have T4 := HT3.out.on X4
        refine (hset _ _ _ T4 (bel_step (HB3.out) X4 (Below.refl _ _))).mono ?_
        rintro e W4 ⟨rfl, v4, hT, hm⟩
        have HT4 : Hid (Tab W4 t v4 c.m c.a l) := hT
        have Hq4 := (bel_step (HB3.out) X4 (Below.refl _ _))
        have HB4 : Hid (Below w.heap.size w W4) := hm.below' Hq4 Hq4.size Htw.out HG3.out
        have HG4 : Hid (∀ k, v4.ownBlock = some k → w.heap.size ≤ k) := hm.ge Hq4.size HG3.out
        have Kc4 : Hid (Kb W4 t v4 (w.heap.size) (.cells #[.int .i64 c.m, .int .i64 c.a, .int .i64 c.p, .int .i64 c.g, .int .i64 c.t, .int .i64 c.b, .int .i64 c.d] 24)) := (Kc3.out.on X4).moved hm
        have Kh4 : Hid (Kb W4 t v4 (w.heap.size + 1) (.cells #[.int .u32 (h.s : Int), .int .u32 (h.d : Int), .int .u16 (h.p : Int), .int .u16 (h.q : Int), .int .u8 (h.r : Int)] 45)) := (Kh3.out.on X4).moved hm
        have Kg4 : Hid (Kb W4 t v4 (w.heap.size + 1 + 1) (.cells #[.int .u32 (g.s : Int), .int .u32 (g.d : Int), .int .u16 (g.p : Int), .int .u16 (g.q : Int), .int .u8 (g.r : Int)] 45)) := (Kg3.out.on X4).moved hm
        clear X4 hm hT Hq4 T4 HB3
        clear HT3 HG3
        try clear Kc3
        try clear Kh3
        try clear Kg3
        have x0 := blk_cell Kc4.out.1 (j := 0) rfl
        have x1 := blk_cell Kc4.out.1 (j := 1) rfl
        have x2 := blk_cell Kc4.out.1 (j := 2) rfl
        have x3 := blk_cell Kc4.out.1 (j := 3) rfl
        have x4 := blk_cell Kc4.out.1 (j := 4) rfl
        have x5 := blk_cell Kc4.out.1 (j := 5) rfl
        have x6 := blk_cell Kc4.out.1 (j := 6) rfl
        obtain ⟨y0, y1, y2, y3, y4⟩ := blk5 Kh4.out.1
        go_wp2_with (fail)
        clear x0 x1 x2 x3 x4 x5 x6
        clear y0 y1 y2 y3 y4
        have X5 := bel_a0 W4
        have T5 := HT4.out.on X5
        refine (hrm _ (bel_step (HB4.out) X5 (Below.refl _ _))).mono ?_
        rintro e W5 ⟨rfl, hb⟩
        have HB5 : Hid (Below w.heap.size w W5) := bel_step (HB4.out) X5 hb
        have HT5 : Hid (Tab W5 t v4 c.m c.a l) := T5.on hb
        have Kc5 : Hid (Kb W5 t v4 (w.heap.size) (.cells #[.int .i64 c.m, .int .i64 c.a, .int .i64 c.p, .int .i64 c.g, .int .i64 c.t, .int .i64 c.b, .int .i64 c.d] 24)) := (Kc4.out.on X5).on hb
        have Kh5 : Hid (Kb W5 t v4 (w.heap.size + 1) (.cells #[.int .u32 (h.s : Int), .int .u32 (h.d : Int), .int .u16 (h.p : Int), .int .u16 (h.q : Int), .int .u8 (h.r : Int)] 45)) := (Kh4.out.on X5).on hb
        have Kg5 : Hid (Kb W5 t v4 (w.heap.size + 1 + 1) (.cells #[.int .u32 (g.s : Int), .int .u32 (g.d : Int), .int .u16 (g.p : Int), .int .u16 (g.q : Int), .int .u8 (g.r : Int)] 45)) := (Kg4.out.on X5).on hb
        clear X5 hb T5 HB4
        clear HT4
        try clear Kc4
        try clear Kh4
        try clear Kg4
        obtain ⟨y0, y1, y2, y3, y4⟩ := blk5 (blk_alloc Kh5.out.1 (.cells #[.bool B1, .int .i64 I1, .int .i64 A1] 56))
        go_wp2_with (fail)
        clear y0 y1 y2 y3 y4
        have X6 := bel_a1 W5 (.cells #[.bool B1, .int .i64 I1, .int .i64 A1] 56)
        have Na6 : (W5.alloc (.cells #[.bool B1, .int .i64 I1, .int .i64 A1] 56)).heap[W5.heap.size]? = some (.cells #[.bool B1, .int .i64 I1, .int .i64 A1] 56) := (blk_new W5 (.cells #[.bool B1, .int .i64 I1, .int .i64 A1] 56))
        have T6 := HT5.out.on X6
        refine (hm _ _ _ T6).mono ?_
        rintro e W6 ⟨rfl, hb⟩
        have HB6 : Hid (Below w.heap.size w W6) := bel_step (HB5.out) X6 hb
        have HT6 : Hid (Tab W6 t v4 c.m c.a l) := T6.on hb
        have Kc6 : Hid (Kb W6 t v4 (w.heap.size) (.cells #[.int .i64 c.m, .int .i64 c.a, .int .i64 c.p, .int .i64 c.g, .int .i64 c.t, .int .i64 c.b, .int .i64 c.d] 24)) := (Kc5.out.on X6).on hb
        have Kh6 : Hid (Kb W6 t v4 (w.heap.size + 1) (.cells #[.int .u32 (h.s : Int), .int .u32 (h.d : Int), .int .u16 (h.p : Int), .int .u16 (h.q : Int), .int .u8 (h.r : Int)] 45)) := (Kh5.out.on X6).on hb
        have Kg6 : Hid (Kb W6 t v4 (w.heap.size + 1 + 1) (.cells #[.int .u32 (g.s : Int), .int .u32 (g.d : Int), .int .u16 (g.p : Int), .int .u16 (g.q : Int), .int .u8 (g.r : Int)] 45)) := (Kg5.out.on X6).on hb
        have Qa6 : Kb (W5.alloc (.cells #[.bool B1, .int .i64 I1, .int .i64 A1] 56)) t v4 (W5.heap.size) (.cells #[.bool B1, .int .i64 I1, .int .i64 A1] 56) := ⟨Na6, by have := HT5.out.lt; omega, fun e => by have := HT5.out.own e; omega⟩
        have Ka6 : Hid (Kb W6 t v4 (W5.heap.size) (.cells #[.bool B1, .int .i64 I1, .int .i64 A1] 56)) := Qa6.on hb
        clear X6 hb T6 Na6 Qa6 HB5
        clear HT5
        try clear Kc5
        try clear Kh5
        try clear Kg5
        obtain ⟨y0, y1, y2, y3, y4⟩ := blk5 (blk_alloc Kg6.out.1 (.cells #[.bool B1, .int .i64 I1, .int .i64 A1] 56))
        go_wp2_with (fail)
        clear y0 y1 y2 y3 y4
        have X7 := bel_a1 W6 (.cells #[.bool B1, .int .i64 I1, .int .i64 A1] 56)
        have Nb7 : (W6.alloc (.cells #[.bool B1, .int .i64 I1, .int .i64 A1] 56)).heap[W6.heap.size]? = some (.cells #[.bool B1, .int .i64 I1, .int .i64 A1] 56) := (blk_new W6 (.cells #[.bool B1, .int .i64 I1, .int .i64 A1] 56))
        have T7 := HT6.out.on X7
        refine (hmg _ _ _ T7).mono ?_
        rintro e W7 ⟨rfl, hb⟩
        have HB7 : Hid (Below w.heap.size w W7) := bel_step (HB6.out) X7 hb
        have HT7 : Hid (Tab W7 t v4 c.m c.a l) := T7.on hb
        have Kc7 : Hid (Kb W7 t v4 (w.heap.size) (.cells #[.int .i64 c.m, .int .i64 c.a, .int .i64 c.p, .int .i64 c.g, .int .i64 c.t, .int .i64 c.b, .int .i64 c.d] 24)) := (Kc6.out.on X7).on hb
        have Kh7 : Hid (Kb W7 t v4 (w.heap.size + 1) (.cells #[.int .u32 (h.s : Int), .int .u32 (h.d : Int), .int .u16 (h.p : Int), .int .u16 (h.q : Int), .int .u8 (h.r : Int)] 45)) := (Kh6.out.on X7).on hb
        have Kg7 : Hid (Kb W7 t v4 (w.heap.size + 1 + 1) (.cells #[.int .u32 (g.s : Int), .int .u32 (g.d : Int), .int .u16 (g.p : Int), .int .u16 (g.q : Int), .int .u8 (g.r : Int)] 45)) := (Kg6.out.on X7).on hb
        have Ka7 : Hid (Kb W7 t v4 (W5.heap.size) (.cells #[.bool B1, .int .i64 I1, .int .i64 A1] 56)) := (Ka6.out.on X7).on hb
        have Qb7 : Kb (W6.alloc (.cells #[.bool B1, .int .i64 I1, .int .i64 A1] 56)) t v4 (W6.heap.size) (.cells #[.bool B1, .int .i64 I1, .int .i64 A1] 56) := ⟨Nb7, by have := HT6.out.lt; omega, fun e => by have := HT6.out.own e; omega⟩
        have Kb7 : Hid (Kb W7 t v4 (W6.heap.size) (.cells #[.bool B1, .int .i64 I1, .int .i64 A1] 56)) := Qb7.on hb
        clear X7 hb T7 Nb7 Qb7 HB6
        clear HT6
        try clear Kc6
        try clear Kh6
        try clear Kg6
        try clear Ka6
        obtain ⟨y0, y1, y2, y3, y4⟩ := blk5 Kh7.out.1
        go_wp2_with (fail)
        clear y0 y1 y2 y3 y4
        have X8 := bel_a0 W7
        have T8 := HT7.out.on X8
        refine (hm _ _ _ T8).mono ?_
        rintro e W8 ⟨rfl, hb⟩
        have HB8 : Hid (Below w.heap.size w W8) := bel_step (HB7.out) X8 hb
        have HT8 : Hid (Tab W8 t v4 c.m c.a l) := T8.on hb
        have Kc8 : Hid (Kb W8 t v4 (w.heap.size) (.cells #[.int .i64 c.m, .int .i64 c.a, .int .i64 c.p, .int .i64 c.g, .int .i64 c.t, .int .i64 c.b, .int .i64 c.d] 24)) := (Kc7.out.on X8).on hb
        have Kh8 : Hid (Kb W8 t v4 (w.heap.size + 1) (.cells #[.int .u32 (h.s : Int), .int .u32 (h.d : Int), .int .u16 (h.p : Int), .int .u16 (h.q : Int), .int .u8 (h.r : Int)] 45)) := (Kh7.out.on X8).on hb
        have Kg8 : Hid (Kb W8 t v4 (w.heap.size + 1 + 1) (.cells #[.int .u32 (g.s : Int), .int .u32 (g.d : Int), .int .u16 (g.p : Int), .int .u16 (g.q : Int), .int .u8 (g.r : Int)] 45)) := (Kg7.out.on X8).on hb
        have Ka8 : Hid (Kb W8 t v4 (W5.heap.size) (.cells #[.bool B1, .int .i64 I1, .int .i64 A1] 56)) := (Ka7.out.on X8).on hb
        have Kb8 : Hid (Kb W8 t v4 (W6.heap.size) (.cells #[.bool B1, .int .i64 I1, .int .i64 A1] 56)) := (Kb7.out.on X8).on hb
        clear X8 hb T8 HB7
        clear HT7
        try clear Kc7
        try clear Kh7
        try clear Kg7
        try clear Ka7
        try clear Kb7
        go_wp2_with (fail)
        have X9 := bel_a1 W8 (.cells #[.bool B1, .int .i64 I1, .int .i64 A1] 56)
        have Nd9 : (W8.alloc (.cells #[.bool B1, .int .i64 I1, .int .i64 A1] 56)).heap[W8.heap.size]? = some (.cells #[.bool B1, .int .i64 I1, .int .i64 A1] 56) := (blk_new W8 (.cells #[.bool B1, .int .i64 I1, .int .i64 A1] 56))
        have T9 := HT8.out.on X9
        refine (awakeT _).mono ?_
        rintro e W9 ⟨rfl, hb⟩
        have HB9 : Hid (Below w.heap.size w W9) := bel_step (HB8.out) X9 hb
        have HT9 : Hid (Tab W9 t v4 c.m c.a l) := T9.on hb
        have Kc9 : Hid (Kb W9 t v4 (w.heap.size) (.cells #[.int .i64 c.m, .int .i64 c.a, .int .i64 c.p, .int .i64 c.g, .int .i64 c.t, .int .i64 c.b, .int .i64 c.d] 24)) := (Kc8.out.on X9).on hb
        have Kh9 : Hid (Kb W9 t v4 (w.heap.size + 1) (.cells #[.int .u32 (h.s : Int), .int .u32 (h.d : Int), .int .u16 (h.p : Int), .int .u16 (h.q : Int), .int .u8 (h.r : Int)] 45)) := (Kh8.out.on X9).on hb
        have Kg9 : Hid (Kb W9 t v4 (w.heap.size + 1 + 1) (.cells #[.int .u32 (g.s : Int), .int .u32 (g.d : Int), .int .u16 (g.p : Int), .int .u16 (g.q : Int), .int .u8 (g.r : Int)] 45)) := (Kg8.out.on X9).on hb
        have Ka9 : Hid (Kb W9 t v4 (W5.heap.size) (.cells #[.bool B1, .int .i64 I1, .int .i64 A1] 56)) := (Ka8.out.on X9).on hb
        have Kb9 : Hid (Kb W9 t v4 (W6.heap.size) (.cells #[.bool B1, .int .i64 I1, .int .i64 A1] 56)) := (Kb8.out.on X9).on hb
        have Qd9 : Kb (W8.alloc (.cells #[.bool B1, .int .i64 I1, .int .i64 A1] 56)) t v4 (W8.heap.size) (.cells #[.bool B1, .int .i64 I1, .int .i64 A1] 56) := ⟨Nd9, by have := HT8.out.lt; omega, fun e => by have := HT8.out.own e; omega⟩
        have Kd9 : Hid (Kb W9 t v4 (W8.heap.size) (.cells #[.bool B1, .int .i64 I1, .int .i64 A1] 56)) := Qd9.on hb
        clear X9 hb T9 Nd9 Qd9 HB8
        clear HT8
        try clear Kc8
        try clear Kh8
        try clear Kg8
        try clear Ka8
        try clear Kb8
        obtain ⟨p0, p1, p2⟩ := blk3 Ka9.out.1
        obtain ⟨r0, r1, r2⟩ := blk3 Kb9.out.1
        obtain ⟨s0, s1, s2⟩ := blk3 Kd9.out.1
        have heq := eqV_self
        go_wp2_with (fail)
        go_ret
        exact ⟨ret_bool (by simp), HB9.out⟩

      · have hE' : (E != 0) = true := by simpa using hE0
        obtain ⟨n, hn⟩ : ∃ n, n = l.length := ⟨_, rfl⟩
        obtain ⟨ad, cap, rfl, hcap, hat⟩ := hs
        rw [← hn] at hn2 hrs ⊢
        clear hat hbd bd hok e o hn hE
        have hn' : ¬ (2000 : Int) < (n : Int) := by omega
        go_enter Try.func5, Try.ntmps5
        have x0 : (((w.alloc (.cells #[.int .i64 c.m, .int .i64 c.a, .int .i64 c.p, .int .i64 c.g, .int .i64 c.t, .int .i64 c.b, .int .i64 c.d] 24)).alloc (.cells #[.int .u32 (h.s : Int), .int .u32 (h.d : Int), .int .u16 (h.p : Int), .int .u16 (h.q : Int), .int .u8 (h.r : Int)] 45)).alloc (.cells #[.int .u32 (g.s : Int), .int .u32 (g.d : Int), .int .u16 (g.p : Int), .int .u16 (g.q : Int), .int .u8 (g.r : Int)] 45)).cell? ⟨w.heap.size, 0, none⟩ = some (.int .i64 c.m) := blk_cell (blk_alloc (blk_alloc (blk_new w _) _) _) rfl
        have x1 : (((w.alloc (.cells #[.int .i64 c.m, .int .i64 c.a, .int .i64 c.p, .int .i64 c.g, .int .i64 c.t, .int .i64 c.b, .int .i64 c.d] 24)).alloc (.cells #[.int .u32 (h.s : Int), .int .u32 (h.d : Int), .int .u16 (h.p : Int), .int .u16 (h.q : Int), .int .u8 (h.r : Int)] 45)).alloc (.cells #[.int .u32 (g.s : Int), .int .u32 (g.d : Int), .int .u16 (g.p : Int), .int .u16 (g.q : Int), .int .u8 (g.r : Int)] 45)).cell? ⟨w.heap.size, 1, none⟩ = some (.int .i64 c.a) := blk_cell (blk_alloc (blk_alloc (blk_new w _) _) _) rfl
        have x2 : (((w.alloc (.cells #[.int .i64 c.m, .int .i64 c.a, .int .i64 c.p, .int .i64 c.g, .int .i64 c.t, .int .i64 c.b, .int .i64 c.d] 24)).alloc (.cells #[.int .u32 (h.s : Int), .int .u32 (h.d : Int), .int .u16 (h.p : Int), .int .u16 (h.q : Int), .int .u8 (h.r : Int)] 45)).alloc (.cells #[.int .u32 (g.s : Int), .int .u32 (g.d : Int), .int .u16 (g.p : Int), .int .u16 (g.q : Int), .int .u8 (g.r : Int)] 45)).cell? ⟨w.heap.size, 2, none⟩ = some (.int .i64 c.p) := blk_cell (blk_alloc (blk_alloc (blk_new w _) _) _) rfl
        have x3 : (((w.alloc (.cells #[.int .i64 c.m, .int .i64 c.a, .int .i64 c.p, .int .i64 c.g, .int .i64 c.t, .int .i64 c.b, .int .i64 c.d] 24)).alloc (.cells #[.int .u32 (h.s : Int), .int .u32 (h.d : Int), .int .u16 (h.p : Int), .int .u16 (h.q : Int), .int .u8 (h.r : Int)] 45)).alloc (.cells #[.int .u32 (g.s : Int), .int .u32 (g.d : Int), .int .u16 (g.p : Int), .int .u16 (g.q : Int), .int .u8 (g.r : Int)] 45)).cell? ⟨w.heap.size, 3, none⟩ = some (.int .i64 c.g) := blk_cell (blk_alloc (blk_alloc (blk_new w _) _) _) rfl
        have x4 : (((w.alloc (.cells #[.int .i64 c.m, .int .i64 c.a, .int .i64 c.p, .int .i64 c.g, .int .i64 c.t, .int .i64 c.b, .int .i64 c.d] 24)).alloc (.cells #[.int .u32 (h.s : Int), .int .u32 (h.d : Int), .int .u16 (h.p : Int), .int .u16 (h.q : Int), .int .u8 (h.r : Int)] 45)).alloc (.cells #[.int .u32 (g.s : Int), .int .u32 (g.d : Int), .int .u16 (g.p : Int), .int .u16 (g.q : Int), .int .u8 (g.r : Int)] 45)).cell? ⟨w.heap.size, 4, none⟩ = some (.int .i64 c.t) := blk_cell (blk_alloc (blk_alloc (blk_new w _) _) _) rfl
        have x5 : (((w.alloc (.cells #[.int .i64 c.m, .int .i64 c.a, .int .i64 c.p, .int .i64 c.g, .int .i64 c.t, .int .i64 c.b, .int .i64 c.d] 24)).alloc (.cells #[.int .u32 (h.s : Int), .int .u32 (h.d : Int), .int .u16 (h.p : Int), .int .u16 (h.q : Int), .int .u8 (h.r : Int)] 45)).alloc (.cells #[.int .u32 (g.s : Int), .int .u32 (g.d : Int), .int .u16 (g.p : Int), .int .u16 (g.q : Int), .int .u8 (g.r : Int)] 45)).cell? ⟨w.heap.size, 5, none⟩ = some (.int .i64 c.b) := blk_cell (blk_alloc (blk_alloc (blk_new w _) _) _) rfl
        have x6 : (((w.alloc (.cells #[.int .i64 c.m, .int .i64 c.a, .int .i64 c.p, .int .i64 c.g, .int .i64 c.t, .int .i64 c.b, .int .i64 c.d] 24)).alloc (.cells #[.int .u32 (h.s : Int), .int .u32 (h.d : Int), .int .u16 (h.p : Int), .int .u16 (h.q : Int), .int .u8 (h.r : Int)] 45)).alloc (.cells #[.int .u32 (g.s : Int), .int .u32 (g.d : Int), .int .u16 (g.p : Int), .int .u16 (g.q : Int), .int .u8 (g.r : Int)] 45)).cell? ⟨w.heap.size, 6, none⟩ = some (.int .i64 c.d) := blk_cell (blk_alloc (blk_alloc (blk_new w _) _) _) rfl
        go_wp2_with (fail)
        clear x0 x1 x2 x3 x4 x5 x6
        have X1 := bel_a3 w (.cells #[.int .i64 c.m, .int .i64 c.a, .int .i64 c.p, .int .i64 c.g, .int .i64 c.t, .int .i64 c.b, .int .i64 c.d] 24) (.cells #[.int .u32 (h.s : Int), .int .u32 (h.d : Int), .int .u16 (h.p : Int), .int .u16 (h.q : Int), .int .u8 (h.r : Int)] 45) (.cells #[.int .u32 (g.s : Int), .int .u32 (g.d : Int), .int .u16 (g.p : Int), .int .u16 (g.q : Int), .int .u8 (g.r : Int)] 45)
        have Nc1 : (((w.alloc (.cells #[.int .i64 c.m, .int .i64 c.a, .int .i64 c.p, .int .i64 c.g, .int .i64 c.t, .int .i64 c.b, .int .i64 c.d] 24)).alloc (.cells #[.int .u32 (h.s : Int), .int .u32 (h.d : Int), .int .u16 (h.p : Int), .int .u16 (h.q : Int), .int .u8 (h.r : Int)] 45)).alloc (.cells #[.int .u32 (g.s : Int), .int .u32 (g.d : Int), .int .u16 (g.p : Int), .int .u16 (g.q : Int), .int .u8 (g.r : Int)] 45)).heap[w.heap.size]? = some (.cells #[.int .i64 c.m, .int .i64 c.a, .int .i64 c.p, .int .i64 c.g, .int .i64 c.t, .int .i64 c.b, .int .i64 c.d] 24) := (blk_alloc (blk_alloc (blk_new w (.cells #[.int .i64 c.m, .int .i64 c.a, .int .i64 c.p, .int .i64 c.g, .int .i64 c.t, .int .i64 c.b, .int .i64 c.d] 24)) _) _)
        have Nh1 : (((w.alloc (.cells #[.int .i64 c.m, .int .i64 c.a, .int .i64 c.p, .int .i64 c.g, .int .i64 c.t, .int .i64 c.b, .int .i64 c.d] 24)).alloc (.cells #[.int .u32 (h.s : Int), .int .u32 (h.d : Int), .int .u16 (h.p : Int), .int .u16 (h.q : Int), .int .u8 (h.r : Int)] 45)).alloc (.cells #[.int .u32 (g.s : Int), .int .u32 (g.d : Int), .int .u16 (g.p : Int), .int .u16 (g.q : Int), .int .u8 (g.r : Int)] 45)).heap[w.heap.size + 1]? = some (.cells #[.int .u32 (h.s : Int), .int .u32 (h.d : Int), .int .u16 (h.p : Int), .int .u16 (h.q : Int), .int .u8 (h.r : Int)] 45) := (blk_alloc (by simpa using blk_new (w.alloc (.cells #[.int .i64 c.m, .int .i64 c.a, .int .i64 c.p, .int .i64 c.g, .int .i64 c.t, .int .i64 c.b, .int .i64 c.d] 24)) (.cells #[.int .u32 (h.s : Int), .int .u32 (h.d : Int), .int .u16 (h.p : Int), .int .u16 (h.q : Int), .int .u8 (h.r : Int)] 45)) _)
        have Ng1 : (((w.alloc (.cells #[.int .i64 c.m, .int .i64 c.a, .int .i64 c.p, .int .i64 c.g, .int .i64 c.t, .int .i64 c.b, .int .i64 c.d] 24)).alloc (.cells #[.int .u32 (h.s : Int), .int .u32 (h.d : Int), .int .u16 (h.p : Int), .int .u16 (h.q : Int), .int .u8 (h.r : Int)] 45)).alloc (.cells #[.int .u32 (g.s : Int), .int .u32 (g.d : Int), .int .u16 (g.p : Int), .int .u16 (g.q : Int), .int .u8 (g.r : Int)] 45)).heap[w.heap.size + 1 + 1]? = some (.cells #[.int .u32 (g.s : Int), .int .u32 (g.d : Int), .int .u16 (g.p : Int), .int .u16 (g.q : Int), .int .u8 (g.r : Int)] 45) := (by simpa using blk_new ((w.alloc (.cells #[.int .i64 c.m, .int .i64 c.a, .int .i64 c.p, .int .i64 c.g, .int .i64 c.t, .int .i64 c.b, .int .i64 c.d] 24)).alloc (.cells #[.int .u32 (h.s : Int), .int .u32 (h.d : Int), .int .u16 (h.p : Int), .int .u16 (h.q : Int), .int .u8 (h.r : Int)] 45)) (.cells #[.int .u32 (g.s : Int), .int .u32 (g.d : Int), .int .u16 (g.p : Int), .int .u16 (g.q : Int), .int .u8 (g.r : Int)] 45))
        refine (hr _).mono ?_
        rintro e W1 ⟨rfl, hb⟩
        have HB1 : Hid (Below w.heap.size w W1) := bel_step (Below.refl _ _) X1 hb
        have Kc1 : Hid (W1.heap[w.heap.size]? = some (.cells #[.int .i64 c.m, .int .i64 c.a, .int .i64 c.p, .int .i64 c.g, .int .i64 c.t, .int .i64 c.b, .int .i64 c.d] 24)) := blk_on Nc1 hb
        have Kh1 : Hid (W1.heap[w.heap.size + 1]? = some (.cells #[.int .u32 (h.s : Int), .int .u32 (h.d : Int), .int .u16 (h.p : Int), .int .u16 (h.q : Int), .int .u8 (h.r : Int)] 45)) := blk_on Nh1 hb
        have Kg1 : Hid (W1.heap[w.heap.size + 1 + 1]? = some (.cells #[.int .u32 (g.s : Int), .int .u32 (g.d : Int), .int .u16 (g.p : Int), .int .u16 (g.q : Int), .int .u8 (g.r : Int)] 45)) := blk_on Ng1 hb
        clear X1 hb Nc1 Nh1 Ng1
        have x0 := blk_cell Kc1.out (j := 0) rfl
        have x1 := blk_cell Kc1.out (j := 1) rfl
        have x2 := blk_cell Kc1.out (j := 2) rfl
        have x3 := blk_cell Kc1.out (j := 3) rfl
        have x4 := blk_cell Kc1.out (j := 4) rfl
        have x5 := blk_cell Kc1.out (j := 5) rfl
        have x6 := blk_cell Kc1.out (j := 6) rfl
        go_wp2_with (fail)
        clear x0 x1 x2 x3 x4 x5 x6
        have X2 := bel_a0 W1
        refine (hrs _ (bel_step (HB1.out) X2 (Below.refl _ _))).mono ?_
        rintro e W2 ⟨rfl, hb⟩
        have HB2 : Hid (Below w.heap.size w W2) := bel_step (HB1.out) X2 hb
        have Kc2 : Hid (W2.heap[w.heap.size]? = some (.cells #[.int .i64 c.m, .int .i64 c.a, .int .i64 c.p, .int .i64 c.g, .int .i64 c.t, .int .i64 c.b, .int .i64 c.d] 24)) := blk_on (blk_on Kc1.out X2) hb
        have Kh2 : Hid (W2.heap[w.heap.size + 1]? = some (.cells #[.int .u32 (h.s : Int), .int .u32 (h.d : Int), .int .u16 (h.p : Int), .int .u16 (h.q : Int), .int .u8 (h.r : Int)] 45)) := blk_on (blk_on Kh1.out X2) hb
        have Kg2 : Hid (W2.heap[w.heap.size + 1 + 1]? = some (.cells #[.int .u32 (g.s : Int), .int .u32 (g.d : Int), .int .u16 (g.p : Int), .int .u16 (g.q : Int), .int .u8 (g.r : Int)] 45)) := blk_on (blk_on Kg1.out X2) hb
        clear X2 hb HB1
        try clear Kc1
        try clear Kh1
        try clear Kg1
        go_wp2_with (fail)
        have X3 := bel_a0 W2
        refine (awakeT _).mono ?_
        rintro e W3 ⟨rfl, hb⟩
        have HB3 : Hid (Below w.heap.size w W3) := bel_step (HB2.out) X3 hb
        have Kc3 : Hid (W3.heap[w.heap.size]? = some (.cells #[.int .i64 c.m, .int .i64 c.a, .int .i64 c.p, .int .i64 c.g, .int .i64 c.t, .int .i64 c.b, .int .i64 c.d] 24)) := blk_on (blk_on Kc2.out X3) hb
        have Kh3 : Hid (W3.heap[w.heap.size + 1]? = some (.cells #[.int .u32 (h.s : Int), .int .u32 (h.d : Int), .int .u16 (h.p : Int), .int .u16 (h.q : Int), .int .u8 (h.r : Int)] 45)) := blk_on (blk_on Kh2.out X3) hb
        have Kg3 : Hid (W3.heap[w.heap.size + 1 + 1]? = some (.cells #[.int .u32 (g.s : Int), .int .u32 (g.d : Int), .int .u16 (g.p : Int), .int .u16 (g.q : Int), .int .u8 (g.r : Int)] 45)) := blk_on (blk_on Kg2.out X3) hb
        clear X3 hb HB2
        try clear Kc2
        try clear Kh2
        try clear Kg2
        go_wp2_with (fail)
        go_ret
        exact ⟨rfl, HB3.out⟩

set_option maxRecDepth 100000 in
theorem tableMatches_lifted (os : Os) (started : os.Started) (H : Type) (enc : TypeId × Value → H) :
    ReturnsInHanded {} Try.checked os 5 .any (Rows.tableMatchesSpec.pre6 enc Try.prog Try.f5 Rows.tableMatchesRow.domain false) (Rows.tableMatchesSpec.post enc Try.prog Try.f5 false true false false) := by
  refine returnsInHanded_of_change (C := Try.checked) own started (by kernel_rfl) Try.func5
    (ChangeSpec.witness6 (enc := enc) (C := Try.checked) false ⟨#[], #[.agg #[.int .i64 0, .int .i64 0, .int .i64 0, .int .i64 0, .int .i64 0, .int .i64 0, .int .i64 0], .slice none 0 0, .agg #[.int .u32 0, .int .u32 0, .int .u16 0, .int .u16 0, .int .u8 0], .agg #[.int .u32 0, .int .u32 0, .int .u16 0, .int .u16 0, .int .u8 0]], []⟩ 8 (by kernel_rfl) (by kernel_rfl) (by kernel_rfl) (by kernel_rfl)) ?_
  intro W base args ds gs before hval0 hW hcnd _
  have hval : ∀ (j : Nat) t v, Try.f5.params[j]? = some t → args[j]? = some v → Value.okWide Try.prog W .any base t v := hval0
  have hW' := hW
  obtain ⟨p, q, hA0, hV, rfl, hfz, hnd⟩ := hW
  have hA : DataW.TrodAll enc Try.prog W 0 (fun _ => true) true Try.f5.params.toList args.toList ds p := hA0
  rw [Try.params5] at hA hval
  obtain ⟨v0, vs0, d0, ds0, p0, q0, hargs, rfl, rfl, h0, r0⟩ := trodAll_cons hA
  obtain ⟨v1, vs1, d1, ds1, p1, q1, rfl, rfl, rfl, h1, r1⟩ := trodAll_cons r0
  obtain ⟨v2, vs2, d2, ds2, p2, q2, rfl, rfl, rfl, h2, r2⟩ := trodAll_cons r1
  obtain ⟨v3, vs3, d3, ds3, p3, q3, rfl, rfl, rfl, h3, r3⟩ := trodAll_cons r2
  obtain ⟨rfl, rfl, rfl⟩ := trodAll_nil r3
  obtain rfl : args = #[v0, v1, v2, v3] := by cases args; simp_all
  obtain ⟨rfl, rfl⟩ := trodVars_none hV
  have hlt0 : ∀ x ∈ p0, x.block < W.heap.size := fun x hx => by simpa using hW'.lt x (by simp [hx])
  obtain ⟨g0, rfl, o0⟩ := open_cf (hval 0 24 v0 rfl rfl) h0
  have hlt1 : ∀ x ∈ p1, x.block < W.heap.size := fun x hx => by simpa using hW'.lt x (by simp [hx])
  obtain ⟨l1, s1, bd1⟩ := open_rus (hval 1 33 v1 rfl rfl) h1
  have hlt2 : ∀ x ∈ p2, x.block < W.heap.size := fun x hx => by simpa using hW'.lt x (by simp [hx])
  obtain ⟨g2, rfl, o2⟩ := open_hd (hval 2 45 v2 rfl rfl) h2
  have hlt3 : ∀ x ∈ p3, x.block < W.heap.size := fun x hx => by simpa using hW'.lt x (by simp [hx])
  obtain ⟨g3, rfl, o3⟩ := open_hd (hval 3 45 v3 rfl rfl) h3
  clear hA0 hval0
  simp only [List.append_nil] at hW'
  refine (tableMatches_walk g0 o0 l1 v1 bd1 g2 o2 g3 o3 W s1).mono fun e W' ⟨he, bel⟩ => ?_
  subst he
  exact ⟨_, rfl, _, _, _, [], _, [], hW', trodAll_mk1 (shut_bool Try.underlying4 _), (trodAll_cons_mk (Below.trod laidOut (by kernel_rfl) (of_decide_eq_true (by kernel_rfl)) h0 bel hlt0) (trodAll_cons_mk (Below.trod laidOut (by kernel_rfl) (of_decide_eq_true (by kernel_rfl)) h1 bel hlt1) (trodAll_cons_mk (Below.trod laidOut (by kernel_rfl) (of_decide_eq_true (by kernel_rfl)) h2 bel hlt2) (trodAll_cons_mk (Below.trod laidOut (by kernel_rfl) (of_decide_eq_true (by kernel_rfl)) h3 bel hlt3) trodAll_mk0)))), rfl, bel.frame _, fun h => by cases h⟩

/-- The given statement. -/
theorem tableMatches_holds : Rows.TableMatchesSaid :=
  OpenClaim.holds_of_wide 5 Try.f5 rfl rfl rfl rfl rfl rfl rfl ⟨rfl, rfl, rfl, rfl, rfl⟩ rfl rfl rfl rfl rfl (by kernel_rfl) Try.func5 (by kernel_rfl)
    (of_decide_eq_true (by kernel_rfl)) (by unfold Func.isWrapper; first | (rw [if_pos (by decide +kernel)]; kernel_rfl) | (rw [if_neg (by decide +kernel)]; exact ⟨rfl, rfl⟩))
    (fun os started H enc _ => tableMatches_lifted os started H enc)
#print axioms tableMatches_holds
end Go.Proofs.Ytlghbcdahnjcpaa
