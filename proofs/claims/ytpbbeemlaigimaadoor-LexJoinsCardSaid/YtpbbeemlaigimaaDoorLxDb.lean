/-
  quintetlaw09's next: a scanner's next answer is the one behind so many tokens. Written by tools/mkLxDb.py.
-/
import Derived.Test.YtpbbeemlaigimaaDoorLxDa
import Derived.Test.YtpbbeemlaigimaaDoorLxS
namespace Go.Proofs.YtpbbeemlaigimaaDoor
open Go.RowKit
set_option linter.unusedVariables false
set_option linter.unusedSimpArgs false

theorem But.of {B n : Nat} {w w' : World} (h : Below n w w') (hn : w.heap.size ≤ n) : But B w w' := ⟨h.os, h.tape, h.output, h.size, fun k hk _ => h.block k (by omega)⟩
theorem But.front {B : Nat} {w w1 w2 : World} (h : Below w.heap.size w w1) (h2 : But B w1 w2) : But B w w2 := ⟨h2.os.trans h.os, h2.tape.trans h.tape, h2.output.trans h.output, Nat.le_trans h.size h2.size, fun k hk hne => (h2.block k (by have := h.size; omega) hne).trans (h.block k hk)⟩
theorem But.trans {B : Nat} {w w1 w2 : World} (h : But B w w1) (h2 : But B w1 w2) : But B w w2 := ⟨h2.os.trans h.os, h2.tape.trans h.tape, h2.output.trans h.output, Nat.le_trans h.size h2.size, fun k hk hne => (h2.block k (by have := h.size; omega) hne).trans (h.block k hk hne)⟩
theorem eqT0 (w : World) : Sem.run Tryd.prog (binOp .eql 38 (.agg #[.int .i64 0, .string ⟨#[]⟩, .int .u32 0, .int .i64 0, .int .i64 0]) (.agg #[.int .i64 0, .string ⟨#[]⟩, .int .u32 0, .int .i64 0, .int .i64 0])) w = .ok (.bool true) w := by
  simp [go_sem]
set_option maxRecDepth 20000 in
set_option maxHeartbeats 8000000 in
theorem lnextTok (w : World) (S a b c : Nat) (v u : Value) (L : List Tk) (er : Wr) (hS : Scn w S v a er) (hR : RowT w b v L) (hU : RowT w c u L) (hne : some S ≠ v.ownBlock) (hnu : some S ≠ u.ownBlock) (ha : a < L.length) (hL : L.length ≤ 200000) :
    Calls Tryd.prog 18 #[.pointer (some ⟨S, 0, none⟩), u, .int .i64 (a : Int), .agg #[.int .i64 (er.e : Int), .int .i64 (er.l : Int), .int .i64 (er.c : Int)]] w fun e w' => e = .returned (.bool true) ∧ Scn w' S v (a + 1) er ∧ But S w w' := by
  have hN := nextTok (w.alloc (.cells #[.int .i64 (er.e : Int), .int .i64 (er.l : Int), .int .i64 (er.c : Int)] 25)) S a b v L er (blk_alloc hS _) (hR.alloc _) hne ha hL
  have hRu := hU.alloc (.cells #[.int .i64 (er.e : Int), .int .i64 (er.l : Int), .int .i64 (er.c : Int)] 25)
  obtain ⟨ad, cap, rfl, hcap, hat⟩ := hRu.form
  obtain ⟨g, rfl, _, hgl, cc⟩ := hat (by omega)
  obtain ⟨p, hp⟩ : ∃ p, p = L[a]'ha := ⟨_, rfl⟩
  rw [← hp] at hN
  have HX : Hid (∀ j, j < 5 → (w.alloc (.cells #[.int .i64 (er.e : Int), .int .i64 (er.l : Int), .int .i64 (er.c : Int)] 25)).cell? ⟨g, a * 5 + j, none⟩ = (encT p)[j]?) := fun j hj => by rw [hp]; exact cc a ha j hj
  have HB0 : Hid (Below w.heap.size w (w.alloc (.cells #[.int .i64 (er.e : Int), .int .i64 (er.l : Int), .int .i64 (er.c : Int)] 25))) := (Below.refl _ _).alloc (Nat.le_refl _) _
  have HGL : Hid (g < (w.alloc (.cells #[.int .i64 (er.e : Int), .int .i64 (er.l : Int), .int .i64 (er.c : Int)] 25)).heap.size) := hgl
  have HNE : Hid (g ≠ S) := fun h => hnu (by rw [← h]; rfl)
  have hee := eqT p
  obtain ⟨n, hn⟩ : ∃ n, n = L.length := ⟨_, rfl⟩
  rw [← hn] at ha hL hcap ⊢
  have hlt' : (a : Int) < (n : Int) := by omega
  have ha0 : (a : Int) ≤ 200000 := by omega
  clear hn hp cc hat hR hne hS hL hU hRu hnu hgl
  go_enter Tryd.func18, Tryd.ntmps18
  go_wp2_with (fail)
  refine hN.mono ?_
  rintro e w2 ⟨rfl, hS2, hb2⟩
  have HS2 : Hid (Scn w2 S v (a + 1) er) := hS2
  have HB2 : Hid (But S (w.alloc (.cells #[.int .i64 (er.e : Int), .int .i64 (er.l : Int), .int .i64 (er.c : Int)] 25)) w2) := hb2
  have x0 : w2.cell? ⟨g, a * 5, none⟩ = some (.int .i64 (p.k : Int)) := hb2.at (HX.out 0 (by decide)) HNE.out
  have x1 : w2.cell? ⟨g, a * 5 + 1, none⟩ = some (.string p.t) := hb2.at (HX.out 1 (by decide)) HNE.out
  have x2 : w2.cell? ⟨g, a * 5 + 2, none⟩ = some (.int .u32 (p.v : Int)) := hb2.at (HX.out 2 (by decide)) HNE.out
  have x3 : w2.cell? ⟨g, a * 5 + 3, none⟩ = some (.int .i64 (p.l : Int)) := hb2.at (HX.out 3 (by decide)) HNE.out
  have x4 : w2.cell? ⟨g, a * 5 + 4, none⟩ = some (.int .i64 (p.c : Int)) := hb2.at (HX.out 4 (by decide)) HNE.out
  have hgl2 : g < w2.heap.size := by have := hb2.size; have := HGL.out; omega
  clear hb2 hS2 hN
  go_upto_region 3 with (fail)
  generalize hW3 : w2.alloc (.cells #[.int .i64 (p.k : Int), .string p.t, .int .u32 (p.v : Int), .int .i64 (p.l : Int), .int .i64 (p.c : Int)] 38) = w3 at *
  have hb3 : Below w2.heap.size w2 w3 := by rw [← hW3]; exact (Below.refl _ _).alloc (Nat.le_refl _) _
  have T3 : w3.heap[w2.heap.size]? = some (.cells #[.int .i64 (p.k : Int), .string p.t, .int .u32 (p.v : Int), .int .i64 (p.l : Int), .int .i64 (p.c : Int)] 38) := by rw [← hW3]; exact blk_new w2 _
  have HS3 : Hid (Scn w3 S v (a + 1) er) := blk_on HS2.out hb3
  have HB3 : Hid (But S w w3) := But.front HB0.out (HB2.out.then hb3)
  obtain ⟨t0, t1, t2, t3, t4⟩ := blk5 T3
  clear hW3
  have kne : Nonempty (Kin w3) := ⟨⟨_, Below.refl _ _⟩⟩
  have kx0 : ∀ z : Kin w3, z.val.cell? ⟨g, a * 5, none⟩ = some (.int .i64 (p.k : Int)) := fun z => cell_on1 z.is (cell_on1 hb3 x0)
  have kx1 : ∀ z : Kin w3, z.val.cell? ⟨g, a * 5 + 1, none⟩ = some (.string p.t) := fun z => cell_on1 z.is (cell_on1 hb3 x1)
  have kx2 : ∀ z : Kin w3, z.val.cell? ⟨g, a * 5 + 2, none⟩ = some (.int .u32 (p.v : Int)) := fun z => cell_on1 z.is (cell_on1 hb3 x2)
  have kx3 : ∀ z : Kin w3, z.val.cell? ⟨g, a * 5 + 3, none⟩ = some (.int .i64 (p.l : Int)) := fun z => cell_on1 z.is (cell_on1 hb3 x3)
  have kx4 : ∀ z : Kin w3, z.val.cell? ⟨g, a * 5 + 4, none⟩ = some (.int .i64 (p.c : Int)) := fun z => cell_on1 z.is (cell_on1 hb3 x4)
  have kt0 : ∀ z : Kin w3, z.val.cell? ⟨w2.heap.size, 0, none⟩ = some (.int .i64 (p.k : Int)) := fun z => cell_on1 z.is t0
  have kt1 : ∀ z : Kin w3, z.val.cell? ⟨w2.heap.size, 1, none⟩ = some (.string p.t) := fun z => cell_on1 z.is t1
  have kt2 : ∀ z : Kin w3, z.val.cell? ⟨w2.heap.size, 2, none⟩ = some (.int .u32 (p.v : Int)) := fun z => cell_on1 z.is t2
  have kt3 : ∀ z : Kin w3, z.val.cell? ⟨w2.heap.size, 3, none⟩ = some (.int .i64 (p.l : Int)) := fun z => cell_on1 z.is t3
  have kt4 : ∀ z : Kin w3, z.val.cell? ⟨w2.heap.size, 4, none⟩ = some (.int .i64 (p.c : Int)) := fun z => cell_on1 z.is t4
  clear T3 hb3 x0 x1 x2 x3 x4 t0 t1 t2 t3 t4
  refine wp_region_kin w3 (Below.refl _ _) (by kernel_rfl) (by kernel_rfl) ?_
  repeat (go_big_quiet_step (fail))
  refine wpQuiet_nil ?_
  rintro wq ⟨⟨xq, hxq⟩, hyq⟩
  have hq : Below w3.heap.size w3 wq := by rw [hyq]; exact hxq
  clear hyq hxq xq kne kx0 kx1 kx2 kx3 kx4 kt0 kt1 kt2 kt3 kt4
  have HQ : Hid (Below w3.heap.size w3 wq) := hq
  clear hq
  go_wp2_with (fail)
  go_ret
  exact ⟨rfl, blk_on HS3.out HQ.out, HB3.out.then HQ.out⟩
set_option maxRecDepth 20000 in
set_option maxHeartbeats 8000000 in
theorem lnextBad (w : World) (S a b c : Nat) (v u : Value) (L : List Tk) (er : Wr) (hS : Scn w S v a er) (hR : RowT w b v L) (hU : RowT w c u L) (hne : some S ≠ v.ownBlock) (hnu : some S ≠ u.ownBlock) (ha : a = L.length) (hL : L.length ≤ 200000) (he : er.e ≠ 0) (hg : Hnd w) :
    Calls Tryd.prog 18 #[.pointer (some ⟨S, 0, none⟩), u, .int .i64 (a : Int), .agg #[.int .i64 (er.e : Int), .int .i64 (er.l : Int), .int .i64 (er.c : Int)]] w fun e w' => e = .returned (.bool true) ∧ Below w.heap.size w w' := by
  subst ha
  have hN := nextBad (w.alloc (.cells #[.int .i64 (er.e : Int), .int .i64 (er.l : Int), .int .i64 (er.c : Int)] 25)) S b v L er (blk_alloc hS _) (hR.alloc _) he hL
  obtain ⟨ad, cap, rfl, hcap, hat⟩ := hU.form
  have HB0 : Hid (Below w.heap.size w (w.alloc (.cells #[.int .i64 (er.e : Int), .int .i64 (er.l : Int), .int .i64 (er.c : Int)] 25))) := (Below.refl _ _).alloc (Nat.le_refl _) _
  have HG0 : Hid (Hnd (w.alloc (.cells #[.int .i64 (er.e : Int), .int .i64 (er.l : Int), .int .i64 (er.c : Int)] 25))) := hg.alloc _
  have HZ : Hid ((w.alloc (.cells #[.int .i64 (er.e : Int), .int .i64 (er.l : Int), .int .i64 (er.c : Int)] 25)).heap.size = w.heap.size + 1) := by show _ = _; simp
  have HW : Hid ((w.alloc (.cells #[.int .i64 (er.e : Int), .int .i64 (er.l : Int), .int .i64 (er.c : Int)] 25)).heap[w.heap.size]? = some (.cells #[.int .i64 (er.e : Int), .int .i64 (er.l : Int), .int .i64 (er.c : Int)] 25)) := blk_new w _
  have HE : Hid (¬ (er.e : Int) = 0) := by show ¬ _; omega
  have hzz := eqT0
  obtain ⟨n, hn⟩ : ∃ n, n = L.length := ⟨_, rfl⟩
  rw [← hn] at hL hcap ⊢
  have hlt' : ¬ (n : Int) < (n : Int) := by omega
  clear hn hat hR hne hS hL hU hnu he hg
  go_enter Tryd.func18, Tryd.ntmps18
  go_wp2_with (fail)
  refine hN.mono ?_
  rintro e w2 ⟨F, rfl, hF, hFl, hb2⟩
  have T2 := blk_alloc (blk_on HW.out hb2) (.cells #[.int .i64 0, .string ⟨#[]⟩, .int .u32 0, .int .i64 0, .int .i64 0] 38)
  obtain ⟨q0, q1, q2⟩ := w3cells T2
  have hz2 := hb2.size
  rw [HZ.out] at hz2 hFl
  have n1 : ¬ w.heap.size = w2.heap.size := by omega
  have hFa : Flt (w2.alloc (.cells #[.int .i64 0, .string ⟨#[]⟩, .int .u32 0, .int .i64 0, .int .i64 0] 38)) F (er.e : Int) (er.l : Int) (er.c : Int) := blk_alloc hF _
  have HF2 : Hid (Flt (w2.alloc (.cells #[.int .i64 0, .string ⟨#[]⟩, .int .u32 0, .int .i64 0, .int .i64 0] 38)) F (er.e : Int) (er.l : Int) (er.c : Int)) := hFa
  have HT2 : Hid ((w2.alloc (.cells #[.int .i64 0, .string ⟨#[]⟩, .int .u32 0, .int .i64 0, .int .i64 0] 38)).heap[w2.heap.size]? = some (.cells #[.int .i64 0, .string ⟨#[]⟩, .int .u32 0, .int .i64 0, .int .i64 0] 38)) := blk_new w2 _
  have HB2 : Hid (Below w.heap.size w (w2.alloc (.cells #[.int .i64 0, .string ⟨#[]⟩, .int .u32 0, .int .i64 0, .int .i64 0] 38))) := (HB0.out.trans (hb2.mono HB0.out.size)).alloc (by omega) _
  have HG2 : Hid (Hnd (w2.alloc (.cells #[.int .i64 0, .string ⟨#[]⟩, .int .u32 0, .int .i64 0, .int .i64 0] 38))) := (HG0.out.on hb2).alloc _
  have HFl : Hid (w.heap.size + 1 ≤ F ∧ F < w2.heap.size) := ⟨hFl, blk_lt hF⟩
  have hI := keepIs F (er.e : Int) (er.l : Int) (er.c : Int) _ HE.out HG2.out hFa
  clear hb2 T2 hF hFa hN
  go_wp2_with (fail)
  refine hI.mono ?_
  rintro e w3 ⟨rfl, hb3⟩
  have HB3 : Hid (Below w.heap.size w w3) := HB2.out.trans (hb3.mono HB2.out.size)
  have hTn := turnIs F (er.e : Int) (er.l : Int) (er.c : Int) w3 (HG2.out.on hb3) (blk_on HF2.out hb3)
  have HT3 : Hid (w3.heap[w2.heap.size]? = some (.cells #[.int .i64 0, .string ⟨#[]⟩, .int .u32 0, .int .i64 0, .int .i64 0] 38)) := blk_on HT2.out hb3
  clear hb3 hI
  go_wp2_with (fail)
  refine hTn.mono ?_
  rintro e w4 ⟨rfl, _, hb4⟩
  have T4 := hb4.blk HT3.out (by have := HFl.out.2; omega)
  obtain ⟨t0, t1, t2, t3, t4⟩ := blk5 T4
  have HB4 : Hid (Below w.heap.size w w4) := HB3.out.trans (hb4.below (by have := HFl.out.1; omega) HB3.out.size)
  clear hb4 T4 hTn
  go_wp2_with (fail)
  go_ret
  exact ⟨rfl, by first | exact HB4.out | exact HB4.out.drew⟩
set_option maxRecDepth 20000 in
set_option maxHeartbeats 8000000 in
theorem lnextEnd (w : World) (S a b c : Nat) (v u : Value) (L : List Tk) (er : Wr) (hS : Scn w S v a er) (hR : RowT w b v L) (hU : RowT w c u L) (hne : some S ≠ v.ownBlock) (hnu : some S ≠ u.ownBlock) (ha : a = L.length) (hL : L.length ≤ 200000) (he : er.e = 0) :
    Calls Tryd.prog 18 #[.pointer (some ⟨S, 0, none⟩), u, .int .i64 (a : Int), .agg #[.int .i64 (er.e : Int), .int .i64 (er.l : Int), .int .i64 (er.c : Int)]] w fun e w' => e = .returned (.bool true) ∧ Below w.heap.size w w' := by
  subst ha
  have hN := nextEnd (w.alloc (.cells #[.int .i64 (er.e : Int), .int .i64 (er.l : Int), .int .i64 (er.c : Int)] 25)) S b v L er (blk_alloc hS _) (hR.alloc _) he hL
  obtain ⟨ad, cap, rfl, hcap, hat⟩ := hU.form
  have HB0 : Hid (Below w.heap.size w (w.alloc (.cells #[.int .i64 (er.e : Int), .int .i64 (er.l : Int), .int .i64 (er.c : Int)] 25))) := (Below.refl _ _).alloc (Nat.le_refl _) _
  have HZ : Hid ((w.alloc (.cells #[.int .i64 (er.e : Int), .int .i64 (er.l : Int), .int .i64 (er.c : Int)] 25)).heap.size = w.heap.size + 1) := by show _ = _; simp
  have HW : Hid ((w.alloc (.cells #[.int .i64 (er.e : Int), .int .i64 (er.l : Int), .int .i64 (er.c : Int)] 25)).heap[w.heap.size]? = some (.cells #[.int .i64 (er.e : Int), .int .i64 (er.l : Int), .int .i64 (er.c : Int)] 25)) := blk_new w _
  have HE : Hid (er.e = 0) := he
  have hzz := eqT0
  have hkn := keepNil (er.l : Int) (er.c : Int)
  obtain ⟨n, hn⟩ : ∃ n, n = L.length := ⟨_, rfl⟩
  rw [← hn] at hL hcap ⊢
  have hlt' : ¬ (n : Int) < (n : Int) := by omega
  clear hn hat hR hne hS hL hU hnu he
  go_enter Tryd.func18, Tryd.ntmps18
  go_wp2_with (fail)
  refine hN.mono ?_
  rintro e w2 ⟨rfl, hb2⟩
  have T2 := blk_alloc (blk_on HW.out hb2) (.cells #[.int .i64 0, .string ⟨#[]⟩, .int .u32 0, .int .i64 0, .int .i64 0] 38)
  obtain ⟨q0, q1, q2⟩ := w3cells T2
  rw [HE.out] at q0
  have hz2 := hb2.size
  rw [HZ.out] at hz2
  have n1 : ¬ w.heap.size = w2.heap.size := by omega
  have HT2 : Hid ((w2.alloc (.cells #[.int .i64 0, .string ⟨#[]⟩, .int .u32 0, .int .i64 0, .int .i64 0] 38)).heap[w2.heap.size]? = some (.cells #[.int .i64 0, .string ⟨#[]⟩, .int .u32 0, .int .i64 0, .int .i64 0] 38)) := blk_new w2 _
  have HB2 : Hid (Below w.heap.size w (w2.alloc (.cells #[.int .i64 0, .string ⟨#[]⟩, .int .u32 0, .int .i64 0, .int .i64 0] 38))) := (HB0.out.trans (hb2.mono HB0.out.size)).alloc (by omega) _
  clear hb2 T2 hN
  go_wp2_with (fail)
  refine (hkn _).mono ?_
  rintro e w3 ⟨rfl, hw3⟩
  have HW3 : Hid _ := hw3
  clear hw3
  go_wp2_with (fail)
  refine (turnNil _).mono ?_
  rintro e w4 ⟨rfl, hb4⟩
  rw [HW3.out] at hb4
  have T4 := blk_on HT2.out hb4
  obtain ⟨t0, t1, t2, t3, t4⟩ := blk5 T4
  have HB4 : Hid (Below w.heap.size w w4) := HB2.out.trans (hb4.mono HB2.out.size)
  clear hb4 T4
  go_wp2_with (fail)
  go_ret
  exact ⟨rfl, by first | exact HB4.out | exact HB4.out.drew⟩
/-- All three: the count behind it, one further unless it is at the end. -/
theorem lnext (w : World) (S a b c : Nat) (v u : Value) (L : List Tk) (er : Wr) (hS : Scn w S v a er) (hR : RowT w b v L) (hU : RowT w c u L) (hne : some S ≠ v.ownBlock) (hnu : some S ≠ u.ownBlock) (ha : a ≤ L.length) (hL : L.length ≤ 200000) (hg : Hnd w) :
    Calls Tryd.prog 18 #[.pointer (some ⟨S, 0, none⟩), u, .int .i64 (a : Int), .agg #[.int .i64 (er.e : Int), .int .i64 (er.l : Int), .int .i64 (er.c : Int)]] w fun e w' => e = .returned (.bool true) ∧ Scn w' S v (min (a + 1) L.length) er ∧ But S w w' := by
  by_cases h : a < L.length
  · rw [Nat.min_eq_left h]
    exact lnextTok w S a b c v u L er hS hR hU hne hnu h hL
  · have e : a = L.length := by omega
    rw [Nat.min_eq_right (by omega), ← e]
    by_cases he : er.e = 0
    · exact (lnextEnd w S a b c v u L er hS hR hU hne hnu e hL he).mono fun _ _ ⟨h1, h2⟩ => ⟨h1, blk_on hS h2, But.of h2 (Nat.le_refl _)⟩
    · exact (lnextBad w S a b c v u L er hS hR hU hne hnu e hL he hg).mono fun _ _ ⟨h1, h2⟩ => ⟨h1, blk_on hS h2, But.of h2 (Nat.le_refl _)⟩
end Go.Proofs.YtpbbeemlaigimaaDoor
