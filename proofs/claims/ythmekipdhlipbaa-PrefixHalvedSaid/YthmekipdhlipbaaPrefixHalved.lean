/-
  Proved: for any prefix that may be and any address, a prefix's addresses are those of its halves, each of them in one half alone, and Above tells Len and one more, each holding the one ahead (P2.7); the document's examples hold.
  Conditions: none; the law holds for every input.
-/
import Derived.Test.YthmekipdhlipbaaPxAwake
import Derived.Test.YthmekipdhlipbaaPxPlE
import Derived.Test.YthmekipdhlipbaaPxFrame
namespace Go.Proofs.Ythmekipdhlipbaa
open Go.ChangeShapes Go.WideShapes Go.ChangeAt Go.RowKit Go.Joins
set_option linter.unusedVariables false
set_option linter.unusedSimpArgs false

attribute [local go_sem] Oper.semAt_some
set_option maxRecDepth 100000 in
set_option maxHeartbeats 8000000 in
theorem halved_good (a n x : Nat) (ha : a < 4294967296) (hx0 : x < 4294967296) (hn : n ≤ 32) (h0 : a % bk n = 0) (w : World) :
    Calls Try.prog 4 #[.agg #[.int .u32 a, .int .i64 n], .int .u32 (x : Int)] w fun e w' => e = .returned (.bool true) ∧ Below w.heap.size w w' := by
  have ka := chk_in a n hn h0
  rcases Nat.lt_or_ge n 32 with h32 | h32
  · have hh := half_hi' a n h32 ha h0
    obtain ⟨xa, exa⟩ : ∃ z, z = a := ⟨_, rfl⟩
    obtain ⟨xn, exn⟩ : ∃ z, z = n + 1 := ⟨_, rfl⟩
    obtain ⟨ya, eya⟩ : ∃ z, z = a + bk (n + 1) := ⟨_, rfl⟩
    obtain ⟨il, eil⟩ : ∃ t, t = hasB a ((n + 1 : Nat) : Int) x := ⟨_, rfl⟩
    obtain ⟨ih, eih⟩ : ∃ t, t = hasB (a + bk (n + 1)) ((n + 1 : Nat) : Int) x := ⟨_, rfl⟩
    have q1 : decide ((n : Int) < 32) = true := decide_eq_true (by omega)
    have q2 : (n : Int) < 32 := by omega
    have hhalf : ∀ w1 : World, Calls Try.prog 13 #[.agg #[.int .u32 a, .int .i64 n]] w1 fun e w' => e = .returned (.tuple #[.agg #[.int .u32 xa, .int .i64 xn], .agg #[.int .u32 ya, .int .i64 xn], .int .i64 0]) ∧ Below w1.heap.size w1 w' := fun w1 => by
      have e : hE a (n : Int) = 0 := by simp only [hE, ka, if_true]; rw [if_neg (by omega)]
      have := halves_any a n w1 ha
      rw [show hA a (n : Int) = xa by simp [hA, e, exa], show hB a (n : Int) = ya by simp [hB, e, eya], show hN a (n : Int) = (xn : Int) by simp [hN, e, exn], e] at this
      exact this
    have hHp : ∀ w1 : World, Calls Try.prog 14 #[.agg #[.int .u32 a, .int .i64 n], .int .u32 (x : Int)] w1 fun e w' => e = .returned (.bool (!(il == ih))) ∧ Below w1.heap.size w1 w' := fun w1 => by
      have e : hasB a (n : Int) x = (!(il == ih)) := by rw [eil, eih]; exact hh.1 x
      rw [← e]; exact has_any a n x w1 ha hx0
    have hHx : ∀ w1 : World, Calls Try.prog 14 #[.agg #[.int .u32 xa, .int .i64 xn], .int .u32 (x : Int)] w1 fun e w' => e = .returned (.bool il) ∧ Below w1.heap.size w1 w' := fun w1 => by
      rw [eil, exa, exn]; exact has_any a (n + 1 : Nat) x w1 ha hx0
    have hHy : ∀ w1 : World, Calls Try.prog 14 #[.agg #[.int .u32 ya, .int .i64 xn], .int .u32 (x : Int)] w1 fun e w' => e = .returned (.bool ih) ∧ Below w1.heap.size w1 w' := fun w1 => by
      rw [eih, eya, exn]; exact has_any (a + bk (n + 1)) (n + 1 : Nat) x w1 hh.2.1 hx0
    have hCmp : ∀ w1 : World, Calls Try.prog 15 #[.agg #[.int .u32 xa, .int .i64 xn], .agg #[.int .u32 ya, .int .i64 xn]] w1 fun e w' => e = .returned (.int .i64 (-1)) ∧ Below w1.heap.size w1 w' := fun w1 => by
      rw [← cmp_up2 xa ya (xn : Int) (xn : Int) (by have := bk_pos (n + 1); omega)]; exact compare_any xa xn ya xn w1
    have hWx : ∀ w1 : World, Calls Try.prog 16 #[.agg #[.int .u32 xa, .int .i64 xn], .agg #[.int .u32 a, .int .i64 n]] w1 fun e w' => e = .returned (.bool true) ∧ Below w1.heap.size w1 w' := fun w1 => by
      rw [exa, exn, ← hh.2.2.1]; exact within_any a (n + 1 : Nat) a n w1 ha ha
    have hWy : ∀ w1 : World, Calls Try.prog 16 #[.agg #[.int .u32 ya, .int .i64 xn], .agg #[.int .u32 a, .int .i64 n]] w1 fun e w' => e = .returned (.bool true) ∧ Below w1.heap.size w1 w' := fun w1 => by
      rw [eya, exn, ← hh.2.2.2]; exact within_any (a + bk (n + 1)) (n + 1 : Nat) a n w1 hh.2.1 ha
    have hbb : (!((!(il == ih)) == (!(il == ih)))) = false := by simp
    clear exa exn eya eil eih hh
    refine callsIn_wide.1 (callsIn_of_wp_marks (n := 9) Try.func4 rfl trivial ?_ rfl)
    simp only [Try.ntmps4, List.size_toArray, List.length_cons, List.length_nil, Nat.reduceAdd, Nat.reduceSub, Array.replicate_succ, Array.replicate_zero, List.push_toArray, List.append_toArray, List.nil_append, List.cons_append]
    refine wpIn_wide.2 ?_
    go_wp2_with (fail)
    refine (rcheck_any a n _ ha).mono ?_
    rintro e w1 ⟨rfl, hb1⟩
    have hz1 := hb1.size
    (try simp at hz1)
    have hl1_0 : w.heap.size < w1.heap.size := by omega
    have hl1_1 : w.heap.size + 1 < w1.heap.size := by omega
    have c1_0 : w1.cell? ⟨w.heap.size, 0, none⟩ = some (.int .u32 (a : Int)) := cell_on hb1 (show ((w.alloc (.cells #[.int .u32 (a : Int), .int .i64 (n : Int)] 24)).alloc (.cells #[.bool false] 4)).cell? ⟨w.heap.size, 0, none⟩ = some (.int .u32 (a : Int)) from by simp [go_sem])
    have c1_1 : w1.cell? ⟨w.heap.size, 1, none⟩ = some (.int .i64 (n : Int)) := cell_on hb1 (show ((w.alloc (.cells #[.int .u32 (a : Int), .int .i64 (n : Int)] 24)).alloc (.cells #[.bool false] 4)).cell? ⟨w.heap.size, 1, none⟩ = some (.int .i64 (n : Int)) from by simp [go_sem])
    have c1_2 : w1.cell? ⟨w.heap.size + 1, 0, none⟩ = some (.bool false) := cell_on hb1 (show ((w.alloc (.cells #[.int .u32 (a : Int), .int .i64 (n : Int)] 24)).alloc (.cells #[.bool false] 4)).cell? ⟨w.heap.size + 1, 0, none⟩ = some (.bool false) from by simp [go_sem])
    have f1_2 : w1.frozen? ⟨w.heap.size + 1, 0, none⟩ = false := frozen_on hb1 (show ((w.alloc (.cells #[.int .u32 (a : Int), .int .i64 (n : Int)] 24)).alloc (.cells #[.bool false] 4)).cell? ⟨w.heap.size + 1, 0, none⟩ = some (.bool false) from by simp [go_sem]) (show ((w.alloc (.cells #[.int .u32 (a : Int), .int .i64 (n : Int)] 24)).alloc (.cells #[.bool false] 4)).frozen? ⟨w.heap.size + 1, 0, none⟩ = false from by simp [go_sem])
    have hw1 : Below w.heap.size w w1 := by (repeat (first | assumption | exact Below.refl _ _ | refine Below.drew ?_ | refine bel_drewN ?_ _ | refine Below.setCell ?_ (by first | omega | (simp; done) | (simp; omega)) _ | refine Below.alloc ?_ (by first | omega | (simp; done) | (simp; omega)) _ | refine bel_of ?_ (by assumption)))
    clear hb1
    go_wp2_with (fail)
    refine (hhalf _).mono ?_
    rintro e w2 ⟨rfl, hb2⟩
    have hz2 := hb2.size
    (try simp at hz2)
    have hl2_0 : w.heap.size < w2.heap.size := by omega
    have hl2_1 : w.heap.size + 1 < w2.heap.size := by omega
    have c2_0 : w2.cell? ⟨w.heap.size, 0, none⟩ = some (.int .u32 (a : Int)) := cell_on hb2 c1_0
    have c2_1 : w2.cell? ⟨w.heap.size, 1, none⟩ = some (.int .i64 (n : Int)) := cell_on hb2 c1_1
    have c2_2 : w2.cell? ⟨w.heap.size + 1, 0, none⟩ = some (.bool false) := cell_on hb2 c1_2
    have f2_2 : w2.frozen? ⟨w.heap.size + 1, 0, none⟩ = false := frozen_on hb2 c1_2 f1_2
    have hw2 : Below w.heap.size w w2 := by (repeat (first | assumption | exact Below.refl _ _ | refine Below.drew ?_ | refine bel_drewN ?_ _ | refine Below.setCell ?_ (by first | omega | (simp; done) | (simp; omega)) _ | refine Below.alloc ?_ (by first | omega | (simp; done) | (simp; omega)) _ | refine bel_of ?_ (by assumption)))
    clear hb2 hz1 hl1_0 hl1_1 c1_0 c1_1 c1_2 hw1
    go_wp2_with (fail)
    have kne : Nonempty (Kin ((w2.alloc (.cells #[.int .u32 (xa : Int), .int .i64 (xn : Int)] 24)).alloc (.cells #[.int .u32 (ya : Int), .int .i64 (xn : Int)] 24))) := ⟨⟨_, Below.refl _ _⟩⟩
    have kc0 : ∀ y : Kin ((w2.alloc (.cells #[.int .u32 (xa : Int), .int .i64 (xn : Int)] 24)).alloc (.cells #[.int .u32 (ya : Int), .int .i64 (xn : Int)] 24)), y.val.cell? ⟨w.heap.size, 0, none⟩ = some (.int .u32 (a : Int)) := fun y => cell_on y.is (cell_alloc (cell_alloc c2_0))
    have kc1 : ∀ y : Kin ((w2.alloc (.cells #[.int .u32 (xa : Int), .int .i64 (xn : Int)] 24)).alloc (.cells #[.int .u32 (ya : Int), .int .i64 (xn : Int)] 24)), y.val.cell? ⟨w.heap.size, 1, none⟩ = some (.int .i64 (n : Int)) := fun y => cell_on y.is (cell_alloc (cell_alloc c2_1))
    have kc2 : ∀ y : Kin ((w2.alloc (.cells #[.int .u32 (xa : Int), .int .i64 (xn : Int)] 24)).alloc (.cells #[.int .u32 (ya : Int), .int .i64 (xn : Int)] 24)), y.val.cell? ⟨w.heap.size + 1, 0, none⟩ = some (.bool false) := fun y => cell_on y.is (cell_alloc (cell_alloc c2_2))
    have kc3 : ∀ y : Kin ((w2.alloc (.cells #[.int .u32 (xa : Int), .int .i64 (xn : Int)] 24)).alloc (.cells #[.int .u32 (ya : Int), .int .i64 (xn : Int)] 24)), y.val.cell? ⟨w2.heap.size, 0, none⟩ = some (.int .u32 (xa : Int)) := fun y => cell_on y.is (show ((w2.alloc (.cells #[.int .u32 (xa : Int), .int .i64 (xn : Int)] 24)).alloc (.cells #[.int .u32 (ya : Int), .int .i64 (xn : Int)] 24)).cell? ⟨w2.heap.size, 0, none⟩ = some (.int .u32 (xa : Int)) from by simp [go_sem])
    have kc4 : ∀ y : Kin ((w2.alloc (.cells #[.int .u32 (xa : Int), .int .i64 (xn : Int)] 24)).alloc (.cells #[.int .u32 (ya : Int), .int .i64 (xn : Int)] 24)), y.val.cell? ⟨w2.heap.size, 1, none⟩ = some (.int .i64 (xn : Int)) := fun y => cell_on y.is (show ((w2.alloc (.cells #[.int .u32 (xa : Int), .int .i64 (xn : Int)] 24)).alloc (.cells #[.int .u32 (ya : Int), .int .i64 (xn : Int)] 24)).cell? ⟨w2.heap.size, 1, none⟩ = some (.int .i64 (xn : Int)) from by simp [go_sem])
    have kc5 : ∀ y : Kin ((w2.alloc (.cells #[.int .u32 (xa : Int), .int .i64 (xn : Int)] 24)).alloc (.cells #[.int .u32 (ya : Int), .int .i64 (xn : Int)] 24)), y.val.cell? ⟨w2.heap.size + 1, 0, none⟩ = some (.int .u32 (ya : Int)) := fun y => cell_on y.is (show ((w2.alloc (.cells #[.int .u32 (xa : Int), .int .i64 (xn : Int)] 24)).alloc (.cells #[.int .u32 (ya : Int), .int .i64 (xn : Int)] 24)).cell? ⟨w2.heap.size + 1, 0, none⟩ = some (.int .u32 (ya : Int)) from by simp [go_sem])
    have kc6 : ∀ y : Kin ((w2.alloc (.cells #[.int .u32 (xa : Int), .int .i64 (xn : Int)] 24)).alloc (.cells #[.int .u32 (ya : Int), .int .i64 (xn : Int)] 24)), y.val.cell? ⟨w2.heap.size + 1, 1, none⟩ = some (.int .i64 (xn : Int)) := fun y => cell_on y.is (show ((w2.alloc (.cells #[.int .u32 (xa : Int), .int .i64 (xn : Int)] 24)).alloc (.cells #[.int .u32 (ya : Int), .int .i64 (xn : Int)] 24)).cell? ⟨w2.heap.size + 1, 1, none⟩ = some (.int .i64 (xn : Int)) from by simp [go_sem])
    refine wp_region_kin ((w2.alloc (.cells #[.int .u32 (xa : Int), .int .i64 (xn : Int)] 24)).alloc (.cells #[.int .u32 (ya : Int), .int .i64 (xn : Int)] 24)) (Below.refl _ _) (by kernel_rfl) (by kernel_rfl) ?_
    repeat (go_big_quiet_step (first | (go_at_call_of 14 (Value.agg #[.int .u32 (a : Int), .int .i64 (n : Int)]); exact kin_call (hHp _)) | (go_at_call_of 14 (Value.agg #[.int .u32 (xa : Int), .int .i64 (xn : Int)]); exact kin_call (hHx _)) | (go_at_call_of 14 (Value.agg #[.int .u32 (ya : Int), .int .i64 (xn : Int)]); exact kin_call (hHy _)) | (go_at_call 15; exact kin_call (hCmp _)) | (go_at_call_of 16 (Value.agg #[.int .u32 (xa : Int), .int .i64 (xn : Int)]); exact kin_call (hWx _)) | (go_at_call_of 16 (Value.agg #[.int .u32 (ya : Int), .int .i64 (xn : Int)]); exact kin_call (hWy _))))
    refine wpQuiet_nil ?_
    rintro w3 ⟨⟨xq, hxq⟩, hyq⟩
    have hb3 : Below ((w2.alloc (.cells #[.int .u32 (xa : Int), .int .i64 (xn : Int)] 24)).alloc (.cells #[.int .u32 (ya : Int), .int .i64 (xn : Int)] 24)).heap.size ((w2.alloc (.cells #[.int .u32 (xa : Int), .int .i64 (xn : Int)] 24)).alloc (.cells #[.int .u32 (ya : Int), .int .i64 (xn : Int)] 24)) w3 := by rw [hyq]; exact hxq
    clear hyq hxq xq
    clear kne kc0 kc1 kc2 kc3 kc4 kc5 kc6
    have hz3 := hb3.size
    (try simp at hz3)
    have hl3_0 : w.heap.size < w3.heap.size := by omega
    have hl3_1 : w.heap.size + 1 < w3.heap.size := by omega
    have hl3_2 : w2.heap.size < w3.heap.size := by omega
    have hl3_3 : w2.heap.size + 1 < w3.heap.size := by omega
    have c3_0 : w3.cell? ⟨w.heap.size, 0, none⟩ = some (.int .u32 (a : Int)) := cell_on hb3 (cell_alloc (cell_alloc c2_0))
    have c3_1 : w3.cell? ⟨w.heap.size, 1, none⟩ = some (.int .i64 (n : Int)) := cell_on hb3 (cell_alloc (cell_alloc c2_1))
    have c3_2 : w3.cell? ⟨w.heap.size + 1, 0, none⟩ = some (.bool false) := cell_on hb3 (cell_alloc (cell_alloc c2_2))
    have f3_2 : w3.frozen? ⟨w.heap.size + 1, 0, none⟩ = false := frozen_on hb3 (cell_alloc (cell_alloc c2_2)) (frozen_alloc (cell_alloc c2_2) (frozen_alloc c2_2 f2_2))
    have c3_3 : w3.cell? ⟨w2.heap.size, 0, none⟩ = some (.int .u32 (xa : Int)) := cell_on hb3 (show ((w2.alloc (.cells #[.int .u32 (xa : Int), .int .i64 (xn : Int)] 24)).alloc (.cells #[.int .u32 (ya : Int), .int .i64 (xn : Int)] 24)).cell? ⟨w2.heap.size, 0, none⟩ = some (.int .u32 (xa : Int)) from by simp [go_sem])
    have c3_4 : w3.cell? ⟨w2.heap.size, 1, none⟩ = some (.int .i64 (xn : Int)) := cell_on hb3 (show ((w2.alloc (.cells #[.int .u32 (xa : Int), .int .i64 (xn : Int)] 24)).alloc (.cells #[.int .u32 (ya : Int), .int .i64 (xn : Int)] 24)).cell? ⟨w2.heap.size, 1, none⟩ = some (.int .i64 (xn : Int)) from by simp [go_sem])
    have c3_5 : w3.cell? ⟨w2.heap.size + 1, 0, none⟩ = some (.int .u32 (ya : Int)) := cell_on hb3 (show ((w2.alloc (.cells #[.int .u32 (xa : Int), .int .i64 (xn : Int)] 24)).alloc (.cells #[.int .u32 (ya : Int), .int .i64 (xn : Int)] 24)).cell? ⟨w2.heap.size + 1, 0, none⟩ = some (.int .u32 (ya : Int)) from by simp [go_sem])
    have c3_6 : w3.cell? ⟨w2.heap.size + 1, 1, none⟩ = some (.int .i64 (xn : Int)) := cell_on hb3 (show ((w2.alloc (.cells #[.int .u32 (xa : Int), .int .i64 (xn : Int)] 24)).alloc (.cells #[.int .u32 (ya : Int), .int .i64 (xn : Int)] 24)).cell? ⟨w2.heap.size + 1, 1, none⟩ = some (.int .i64 (xn : Int)) from by simp [go_sem])
    have hw3 : Below w.heap.size w w3 := by (repeat (first | assumption | exact Below.refl _ _ | refine Below.drew ?_ | refine bel_drewN ?_ _ | refine Below.setCell ?_ (by first | omega | (simp; done) | (simp; omega)) _ | refine Below.alloc ?_ (by first | omega | (simp; done) | (simp; omega)) _ | refine bel_of ?_ (by assumption)))
    clear hb3 hz2 hl2_0 hl2_1 c2_0 c2_1 c2_2 hw2
    go_wp2_with (fail)
    refine (above_any a n _).mono ?_
    rintro e w' ⟨rfl, hw⟩
    obtain rfl := hw
    have hnf := eq_nilFunc
    go_wp2_with (fail)
    refine (wpIn_wide (n := 9)).1 ?_
    refine range_px rfl (n₀ := w3.heap.size + 1) (by simp) (above_stops 8 (by decide) w3.heap.size (w3.heap.size + 1) a n ha hn ka _ (by omega) (by first | (simp; done) | (simp; omega)) (by simp [go_sem]) (by simp [go_sem]))
      (fun pre W => (W.cell? ⟨w.heap.size, 1, none⟩ = some (.int .i64 (n : Int)) ∧ W.cell? ⟨w.heap.size + 1, 0, none⟩ = some (.bool false) ∧ W.frozen? ⟨w.heap.size + 1, 0, none⟩ = false ∧ W.cell? ⟨w3.heap.size + 1, 0, none⟩ = some (.int .i64 (pre.length : Int)) ∧ W.frozen? ⟨w3.heap.size + 1, 0, none⟩ = false ∧ W.cell? ⟨w3.heap.size + 1 + 1, 0, none⟩ = some (.int .u32 (ct a (lj n pre.length) : Int)) ∧ W.cell? ⟨w3.heap.size + 1 + 1, 1, none⟩ = some (.int .i64 (lj n pre.length : Int)) ∧ W.frozen? ⟨w3.heap.size + 1 + 1, 0, none⟩ = false ∧ W.frozen? ⟨w3.heap.size + 1 + 1, 1, none⟩ = false) ∧ Below w.heap.size w W ∧ (((w3.alloc (.cells #[.int .u32 a, .int .i64 n] 24)).alloc (.cells #[.int .i64 0] 3)).alloc (.cells #[.int .u32 a, .int .i64 n] 24)).heap.size ≤ W.heap.size ∧ pre <+: desc a (n + 1))
      (fun c pre W => c = .ret ∧ ¬ pre <+: desc a (n + 1))
      ?hI (fun c s A B row hs _ _ => hs) ?h0 ?assign (fun _ _ h => h.2.2.1) ?body ?done ?stop
    case hI => exact OwnFrom.and (Own.from (fun s A B row hs hg hr => ⟨cell_kept hs.1 hg hr, cell_kept hs.2.1 hg hr, (frozen_kept hs.2.1 hg hr).trans hs.2.2.1, cell_kept hs.2.2.2.1 hg hr, (frozen_kept hs.2.2.2.1 hg hr).trans hs.2.2.2.2.1, cell_kept hs.2.2.2.2.2.1 hg hr, cell_kept hs.2.2.2.2.2.2.1 hg hr, (frozen_kept hs.2.2.2.2.2.1 hg hr).trans hs.2.2.2.2.2.2.2.1, (frozen_kept hs.2.2.2.2.2.2.1 hg hr).trans hs.2.2.2.2.2.2.2.2⟩) _) (OwnFrom.and (ownFrom_below (Nat.le_refl _) (by first | omega | (simp; done) | (simp; omega))) (fun _ _ _ _ hs hg _ => ⟨Nat.le_trans hs.1 hg.size, hs.2⟩))
    case h0 => exact ⟨⟨cell_alloc (cell_alloc (cell_alloc c3_1)), cell_alloc (cell_alloc (cell_alloc c3_2)), frozen_alloc (cell_alloc (cell_alloc c3_2)) (frozen_alloc (cell_alloc c3_2) (frozen_alloc c3_2 f3_2)), by simp [go_sem], by simp [go_sem], by simp [go_sem, lj, ct_self a n h0], by simp [go_sem, lj], by simp [go_sem], by simp [go_sem]⟩, by (repeat (first | assumption | exact Below.refl _ _ | refine Below.drew ?_ | refine bel_drewN ?_ _ | refine Below.setCell ?_ (by first | omega | (simp; done) | (simp; omega)) _ | refine Below.alloc ?_ (by first | omega | (simp; done) | (simp; omega)) _ | refine bel_of ?_ (by assumption))), Nat.le_refl _, List.nil_prefix⟩
    case assign =>
      intro l pre x W K hi hz hK
      simp only [List.setIfInBounds_toArray, List.set_cons_succ, List.set_cons_zero] at hK ⊢
      gi_wp2
      exact hK
    case stop =>
      rintro D c pre W hD hpre ⟨rfl, hbad⟩ hK
      exact absurd hpre hbad
    case done =>
      rintro D ys W hD hys ⟨⟨i0, i1, i2, i3, i4, i5, i6, i7, i8⟩, hbl, hzl, hpre⟩ hK
      go_wp2_with (fail)
      refine (awake_any _).mono ?_
      rintro e w7 ⟨rfl, hb7⟩
      have hlen : (ys.length : Int) = (n : Int) + 1 := by rw [hys, desc_length]; rfl
      rw [hlen] at i3
      have j0 := cell_on hb7 i0
      have j1 := cell_on hb7 i1
      have j2 := frozen_on hb7 i1 i2
      have j3 := cell_on hb7 i3
      have hK7 : w7.heap[D]? = some (.deferred (some [])) := (hb7.block D (Array.getElem?_eq_some_iff.1 hK).1).trans hK
      have hb7w : Hid (Below w.heap.size w w7) := hbl.trans (hb7.mono hbl.size)
      have hnb : (n : Int) ≤ 32 := by omega
      clear hhalf hHp hHx hHy hCmp hWx hWy hbb c3_0 c3_1 c3_2 c3_3 c3_4 c3_5 c3_6 hw3 hnf i0 i1 i2 i3 i4 i5 i6 i7 i8 hb7 hbl hlen hys hpre
      go_wp2
      have hK' := (KeepsOthers.setCell w7 ⟨w.heap.size + 1, 0, none⟩ (.bool true)).same D _ hK7 rfl
      refine ⟨by simp, .inl ⟨_, _, rfl, run_takeDeferred hK', ?_⟩⟩
      have hc5 := cell_kept (World.cell?_setCell_same' w7 ⟨w.heap.size + 1, 0, none⟩ (.bool true) (by rw [j1]; rfl)) (grownBy_putObj' _ D (.deferred none)) (fun r e => by cases e; exact ⟨_, hK', rfl⟩)
      refine ⟨.bool true, ?_, rfl, (hb7w.out.setCell (p := ⟨w.heap.size + 1, 0, none⟩) (by show w.heap.size ≤ w.heap.size + 1; omega) _).trans (belowK_b (w := w) (Nat.le_refl _) _ D _ _ (by simp at hD; omega) hK' rfl rfl)⟩
      simp [results, Try.results4, go_sem, hc5]
    case body =>
      rintro l pre ⟨⟨pa, pn⟩, hpa, hpn⟩ Bx W hBx x0 x1 ⟨⟨i0, i1, i2, i3, i4, i5, i6, i7, i8⟩, hbl, hzl, hpre⟩ hN
      simp only [List.setIfInBounds_toArray, List.set_cons_succ, List.set_cons_zero]
      rw [desc_length] at hN
      have hsz3 := hzl
      simp at hsz3
      have hBx3 := hBx
      simp at hBx3
      have hnx := next_iff a n ha hn hpre (by omega) pa pn ⟨hpa, hpn⟩
      obtain ⟨k, hk⟩ : ∃ k, k = pre.length := ⟨_, rfl⟩
      have hlj := lj_next n k (by omega)
      have hll := lj_le n k
      have hla : ct a (lj n k) < 4294967296 := ct_lt a _ ha
      rw [← hk] at i3 i5 i6 hnx hN
      generalize hQ : ownPostG _ _ _ _ _ _ = Q
      have hok : ∀ a' w5, Below W.heap.size W w5 → witB (ct a (lj n k)) (lj n k : Int) pa (pn : Int) = true → (pn : Int) = (n : Int) - (k : Int) → Q .normal a' (((w5.setCell ⟨w3.heap.size + 1 + 1, 0, none⟩ (.int .u32 (pa : Int))).setCell ⟨w3.heap.size + 1 + 1, 1, none⟩ (.int .i64 (pn : Int))).setCell ⟨w3.heap.size + 1, 0, none⟩ (.int .i64 ((k : Int) + 1))) := by
        intro a' w5 hb5 hw he
        rw [← hQ]
        obtain ⟨ep, en⟩ := (fit_iff a n k pa pn ha hn (by omega) hpa hpn).1 ⟨hw, he⟩
        have j0 := cell_on hb5 i0
        have j1 := cell_on hb5 i1
        have j2 := frozen_on hb5 i1 i2
        have j3 := cell_on hb5 i3
        have j4 := frozen_on hb5 i3 i4
        have j5 := cell_on hb5 i5
        have j6 := cell_on hb5 i6
        have j7 := frozen_on hb5 i5 i7
        have j8 := frozen_on hb5 i6 i8
        have hz5 := hb5.size
        have m1 : ¬ w.heap.size = w3.heap.size + 1 + 1 := by omega
        have m2 : ¬ w.heap.size = w3.heap.size + 1 := by omega
        have m3 : ¬ w.heap.size + 1 = w3.heap.size + 1 + 1 := by omega
        have m4 : ¬ w.heap.size + 1 = w3.heap.size + 1 := by omega
        have m5 : ¬ w3.heap.size + 1 = w3.heap.size + 1 + 1 := by omega
        have m6 : ¬ w3.heap.size + 1 + 1 = w3.heap.size + 1 := by omega
        refine ⟨((((KeepsOthers.of_grownBy (grown_of_below hb5) (fun j o e => by cases e)).trans (KeepsOthers.setCell _ _ _)).trans (KeepsOthers.setCell _ _ _)).trans (KeepsOthers.setCell _ _ _)).from _, ?_, ⟨?_, ?_, ?_, ?_, ?_, ?_, ?_, ?_, ?_⟩, ?_, ?_, hnx.2 ⟨hw, he⟩⟩
        · exact (((hb5.mono (show w3.heap.size + 1 ≤ W.heap.size by omega)).setCell (by show w3.heap.size + 1 ≤ w3.heap.size + 1 + 1; omega) _).setCell (by show w3.heap.size + 1 ≤ w3.heap.size + 1 + 1; omega) _).setCell (Nat.le_refl _) _
        · simp [go_sem, m1, m2, j0]
        · simp [go_sem, m3, m4, j1]
        · simp [go_sem, j2]
        · simp [go_sem, m5, j3, ← hk]
        · simp [go_sem, j4]
        · rw [List.length_append, ← hk]
          show _ = some (Value.int .u32 ((ct a (lj n (k + 1)) : Nat) : Int))
          rw [hlj, ← ep]
          simp [go_sem, m6, j5, j6]
        · rw [List.length_append, ← hk]
          show _ = some (Value.int .i64 ((lj n (k + 1) : Nat) : Int))
          rw [hlj, ← en]
          simp [go_sem, m6, j5, j6]
        · simp [go_sem, j7]
        · simp [go_sem, j8]
        · exact (((hbl.trans (hb5.mono (by omega))).setCell (by show w.heap.size ≤ w3.heap.size + 1 + 1; omega) _).setCell (by show w.heap.size ≤ w3.heap.size + 1 + 1; omega) _).setCell (by show w.heap.size ≤ w3.heap.size + 1; omega) _
        · simp [World.setCell]; omega
      have hbad : ∀ a' w5, Below W.heap.size W w5 → ¬ (witB (ct a (lj n k)) (lj n k : Int) pa (pn : Int) = true ∧ (pn : Int) = (n : Int) - (k : Int)) → Q .ret a' (w5.setCell ⟨w.heap.size + 1, 0, none⟩ (.bool false)) := by
        intro a' w5 hb5 hne
        rw [← hQ]
        exact ⟨((KeepsOthers.of_grownBy (grown_of_below hb5) (fun j o e => by cases e)).trans (KeepsOthers.setCell _ _ _)).from _, rfl, fun h => hne (hnx.1 h)⟩
      have hwi := fun V => within_any (ct a (lj n k)) (lj n k : Nat) pa pn V hla hpa
      generalize witB (ct a (lj n k)) (lj n k : Int) pa (pn : Int) = wb at hwi hok hbad
      generalize (ct a (lj n k)) = la at *
      generalize (lj n k) = ln at *
      clear hQ hbl hzl hpre hnx hlj hla hk hll hBx
      generalize Value.agg #[Value.int IntKind.u32 (a : Int), Value.int IntKind.i64 (n : Int)] = z1
      generalize Value.agg #[Value.int IntKind.u32 (xa : Int), Value.int IntKind.i64 (xn : Int)] = z2
      generalize Value.agg #[Value.int IntKind.u32 (ya : Int), Value.int IntKind.i64 (xn : Int)] = z3
      generalize Value.agg #[Value.int IntKind.u32 (pa : Int), Value.int IntKind.i64 (pn : Int)] = z4
      clear hhalf hHp hHx hHy hCmp hWx hWy hbb c3_0 c3_1 c3_2 c3_3 c3_4 c3_5 c3_6 hw3 hnf q1 q2 h32 ka h0
      have hne1 : ¬ w3.heap.size + 1 = w3.heap.size + 1 + 1 := by omega
      have hne2 : ¬ w3.heap.size + 1 + 1 = w3.heap.size + 1 := by omega
      have hne3 : ¬ Bx = w3.heap.size + 1 := by omega
      have hne4 : ¬ Bx = w3.heap.size + 1 + 1 := by omega
      have hkb : (k : Int) ≤ 32 := by omega
      have hnb : (n : Int) ≤ 32 := by omega
      have hk0 : (0 : Int) ≤ (k : Int) := by omega
      clear hsz3 hBx3 hz3 hl3_0 hl3_1 hl3_2 hl3_3 hN hn
      cases wb with
      | true =>
        by_cases he : (pn : Int) = (n : Int) - (k : Int)
        · have he2 : ((pn : Int) != (n : Int) - (k : Int)) = false := by simp [he]
          have hok2 := fun a' w5 hb => hok a' w5 hb rfl he
          clear hok hbad
          have HE : Hid _ := he
          clear he
          gi_wp2_with (refine ⟨trivial, ?_⟩; gi_at_call 16; refine (CallsIn.inRound l (callsIn_wide.2 (hwi _))).mono ?_; rintro e w5 ⟨rfl, hb5⟩; have j0 := cell_on hb5 i0; have j1 := cell_on hb5 i1; have j2 := frozen_on hb5 i1 i2; have j3 := cell_on hb5 i3; have j4 := frozen_on hb5 i3 i4; have j5 := cell_on hb5 i5; have j6 := cell_on hb5 i6; have j7 := frozen_on hb5 i5 i7; have j8 := frozen_on hb5 i6 i8; have jx0 := cell_on hb5 x0; have jx1 := cell_on hb5 x1; clear i0 i1 i2 i3 i4 i5 i6 i7 i8 x0 x1 hwi)
        · have he2 : ((pn : Int) != (n : Int) - (k : Int)) = true := by simp [he]
          have hbad2 := fun a' w5 hb => hbad a' w5 hb (fun h => he h.2)
          clear hok hbad
          clear he
          gi_wp2_with (refine ⟨trivial, ?_⟩; gi_at_call 16; refine (CallsIn.inRound l (callsIn_wide.2 (hwi _))).mono ?_; rintro e w5 ⟨rfl, hb5⟩; have j0 := cell_on hb5 i0; have j1 := cell_on hb5 i1; have j2 := frozen_on hb5 i1 i2; have j3 := cell_on hb5 i3; have j4 := frozen_on hb5 i3 i4; have j5 := cell_on hb5 i5; have j6 := cell_on hb5 i6; have j7 := frozen_on hb5 i5 i7; have j8 := frozen_on hb5 i6 i8; have jx0 := cell_on hb5 x0; have jx1 := cell_on hb5 x1; clear i0 i1 i2 i3 i4 i5 i6 i7 i8 x0 x1 hwi)
      | false =>
        have hbad2 := fun a' w5 hb => hbad a' w5 hb (fun h => by cases h.1)
        clear hok hbad
        gi_wp2_with (refine ⟨trivial, ?_⟩; gi_at_call 16; refine (CallsIn.inRound l (callsIn_wide.2 (hwi _))).mono ?_; rintro e w5 ⟨rfl, hb5⟩; have j0 := cell_on hb5 i0; have j1 := cell_on hb5 i1; have j2 := frozen_on hb5 i1 i2; have j3 := cell_on hb5 i3; have j4 := frozen_on hb5 i3 i4; have j5 := cell_on hb5 i5; have j6 := cell_on hb5 i6; have j7 := frozen_on hb5 i5 i7; have j8 := frozen_on hb5 i6 i8; have jx0 := cell_on hb5 x0; have jx1 := cell_on hb5 x1; clear i0 i1 i2 i3 i4 i5 i6 i7 i8 x0 x1 hwi)
  · obtain ⟨xa, exa⟩ : ∃ z : Nat, z = 0 := ⟨_, rfl⟩
    obtain ⟨xn, exn⟩ : ∃ z : Nat, z = 0 := ⟨_, rfl⟩
    obtain ⟨ya, eya⟩ : ∃ z : Nat, z = 0 := ⟨_, rfl⟩
    have q1 : decide ((n : Int) < 32) = false := decide_eq_false (by omega)
    have q2 : ¬ (n : Int) < 32 := by omega
    have hhalf : ∀ w1 : World, Calls Try.prog 13 #[.agg #[.int .u32 a, .int .i64 n]] w1 fun e w' => e = .returned (.tuple #[.agg #[.int .u32 xa, .int .i64 xn], .agg #[.int .u32 ya, .int .i64 xn], .int .i64 22]) ∧ Below w1.heap.size w1 w' := fun w1 => by
      have e : hE a (n : Int) = 22 := by simp only [hE, ka, if_true]; rw [if_pos (by omega)]
      have := halves_any a n w1 ha
      rw [show hA a (n : Int) = xa by simp [hA, e, exa], show hB a (n : Int) = ya by simp [hB, e, eya], show hN a (n : Int) = (xn : Int) by simp [hN, e, exn], e] at this
      exact this
    clear exa exn eya
    refine callsIn_wide.1 (callsIn_of_wp_marks (n := 9) Try.func4 rfl trivial ?_ rfl)
    simp only [Try.ntmps4, List.size_toArray, List.length_cons, List.length_nil, Nat.reduceAdd, Nat.reduceSub, Array.replicate_succ, Array.replicate_zero, List.push_toArray, List.append_toArray, List.nil_append, List.cons_append]
    refine wpIn_wide.2 ?_
    go_wp2_with (fail)
    refine (rcheck_any a n _ ha).mono ?_
    rintro e w1 ⟨rfl, hb1⟩
    have hz1 := hb1.size
    (try simp at hz1)
    have hl1_0 : w.heap.size < w1.heap.size := by omega
    have hl1_1 : w.heap.size + 1 < w1.heap.size := by omega
    have c1_0 : w1.cell? ⟨w.heap.size, 0, none⟩ = some (.int .u32 (a : Int)) := cell_on hb1 (show ((w.alloc (.cells #[.int .u32 (a : Int), .int .i64 (n : Int)] 24)).alloc (.cells #[.bool false] 4)).cell? ⟨w.heap.size, 0, none⟩ = some (.int .u32 (a : Int)) from by simp [go_sem])
    have c1_1 : w1.cell? ⟨w.heap.size, 1, none⟩ = some (.int .i64 (n : Int)) := cell_on hb1 (show ((w.alloc (.cells #[.int .u32 (a : Int), .int .i64 (n : Int)] 24)).alloc (.cells #[.bool false] 4)).cell? ⟨w.heap.size, 1, none⟩ = some (.int .i64 (n : Int)) from by simp [go_sem])
    have c1_2 : w1.cell? ⟨w.heap.size + 1, 0, none⟩ = some (.bool false) := cell_on hb1 (show ((w.alloc (.cells #[.int .u32 (a : Int), .int .i64 (n : Int)] 24)).alloc (.cells #[.bool false] 4)).cell? ⟨w.heap.size + 1, 0, none⟩ = some (.bool false) from by simp [go_sem])
    have f1_2 : w1.frozen? ⟨w.heap.size + 1, 0, none⟩ = false := frozen_on hb1 (show ((w.alloc (.cells #[.int .u32 (a : Int), .int .i64 (n : Int)] 24)).alloc (.cells #[.bool false] 4)).cell? ⟨w.heap.size + 1, 0, none⟩ = some (.bool false) from by simp [go_sem]) (show ((w.alloc (.cells #[.int .u32 (a : Int), .int .i64 (n : Int)] 24)).alloc (.cells #[.bool false] 4)).frozen? ⟨w.heap.size + 1, 0, none⟩ = false from by simp [go_sem])
    have hw1 : Below w.heap.size w w1 := by (repeat (first | assumption | exact Below.refl _ _ | refine Below.drew ?_ | refine bel_drewN ?_ _ | refine Below.setCell ?_ (by first | omega | (simp; done) | (simp; omega)) _ | refine Below.alloc ?_ (by first | omega | (simp; done) | (simp; omega)) _ | refine bel_of ?_ (by assumption)))
    clear hb1
    go_wp2_with (fail)
    refine (hhalf _).mono ?_
    rintro e w2 ⟨rfl, hb2⟩
    have hz2 := hb2.size
    (try simp at hz2)
    have hl2_0 : w.heap.size < w2.heap.size := by omega
    have hl2_1 : w.heap.size + 1 < w2.heap.size := by omega
    have c2_0 : w2.cell? ⟨w.heap.size, 0, none⟩ = some (.int .u32 (a : Int)) := cell_on hb2 c1_0
    have c2_1 : w2.cell? ⟨w.heap.size, 1, none⟩ = some (.int .i64 (n : Int)) := cell_on hb2 c1_1
    have c2_2 : w2.cell? ⟨w.heap.size + 1, 0, none⟩ = some (.bool false) := cell_on hb2 c1_2
    have f2_2 : w2.frozen? ⟨w.heap.size + 1, 0, none⟩ = false := frozen_on hb2 c1_2 f1_2
    have hw2 : Below w.heap.size w w2 := by (repeat (first | assumption | exact Below.refl _ _ | refine Below.drew ?_ | refine bel_drewN ?_ _ | refine Below.setCell ?_ (by first | omega | (simp; done) | (simp; omega)) _ | refine Below.alloc ?_ (by first | omega | (simp; done) | (simp; omega)) _ | refine bel_of ?_ (by assumption)))
    clear hb2 hz1 hl1_0 hl1_1 c1_0 c1_1 c1_2 hw1
    go_wp2_with (fail)
    have kne : Nonempty (Kin ((w2.alloc (.cells #[.int .u32 (xa : Int), .int .i64 (xn : Int)] 24)).alloc (.cells #[.int .u32 (ya : Int), .int .i64 (xn : Int)] 24))) := ⟨⟨_, Below.refl _ _⟩⟩
    have kc0 : ∀ y : Kin ((w2.alloc (.cells #[.int .u32 (xa : Int), .int .i64 (xn : Int)] 24)).alloc (.cells #[.int .u32 (ya : Int), .int .i64 (xn : Int)] 24)), y.val.cell? ⟨w.heap.size, 0, none⟩ = some (.int .u32 (a : Int)) := fun y => cell_on y.is (cell_alloc (cell_alloc c2_0))
    have kc1 : ∀ y : Kin ((w2.alloc (.cells #[.int .u32 (xa : Int), .int .i64 (xn : Int)] 24)).alloc (.cells #[.int .u32 (ya : Int), .int .i64 (xn : Int)] 24)), y.val.cell? ⟨w.heap.size, 1, none⟩ = some (.int .i64 (n : Int)) := fun y => cell_on y.is (cell_alloc (cell_alloc c2_1))
    have kc2 : ∀ y : Kin ((w2.alloc (.cells #[.int .u32 (xa : Int), .int .i64 (xn : Int)] 24)).alloc (.cells #[.int .u32 (ya : Int), .int .i64 (xn : Int)] 24)), y.val.cell? ⟨w.heap.size + 1, 0, none⟩ = some (.bool false) := fun y => cell_on y.is (cell_alloc (cell_alloc c2_2))
    have kc3 : ∀ y : Kin ((w2.alloc (.cells #[.int .u32 (xa : Int), .int .i64 (xn : Int)] 24)).alloc (.cells #[.int .u32 (ya : Int), .int .i64 (xn : Int)] 24)), y.val.cell? ⟨w2.heap.size, 0, none⟩ = some (.int .u32 (xa : Int)) := fun y => cell_on y.is (show ((w2.alloc (.cells #[.int .u32 (xa : Int), .int .i64 (xn : Int)] 24)).alloc (.cells #[.int .u32 (ya : Int), .int .i64 (xn : Int)] 24)).cell? ⟨w2.heap.size, 0, none⟩ = some (.int .u32 (xa : Int)) from by simp [go_sem])
    have kc4 : ∀ y : Kin ((w2.alloc (.cells #[.int .u32 (xa : Int), .int .i64 (xn : Int)] 24)).alloc (.cells #[.int .u32 (ya : Int), .int .i64 (xn : Int)] 24)), y.val.cell? ⟨w2.heap.size, 1, none⟩ = some (.int .i64 (xn : Int)) := fun y => cell_on y.is (show ((w2.alloc (.cells #[.int .u32 (xa : Int), .int .i64 (xn : Int)] 24)).alloc (.cells #[.int .u32 (ya : Int), .int .i64 (xn : Int)] 24)).cell? ⟨w2.heap.size, 1, none⟩ = some (.int .i64 (xn : Int)) from by simp [go_sem])
    have kc5 : ∀ y : Kin ((w2.alloc (.cells #[.int .u32 (xa : Int), .int .i64 (xn : Int)] 24)).alloc (.cells #[.int .u32 (ya : Int), .int .i64 (xn : Int)] 24)), y.val.cell? ⟨w2.heap.size + 1, 0, none⟩ = some (.int .u32 (ya : Int)) := fun y => cell_on y.is (show ((w2.alloc (.cells #[.int .u32 (xa : Int), .int .i64 (xn : Int)] 24)).alloc (.cells #[.int .u32 (ya : Int), .int .i64 (xn : Int)] 24)).cell? ⟨w2.heap.size + 1, 0, none⟩ = some (.int .u32 (ya : Int)) from by simp [go_sem])
    have kc6 : ∀ y : Kin ((w2.alloc (.cells #[.int .u32 (xa : Int), .int .i64 (xn : Int)] 24)).alloc (.cells #[.int .u32 (ya : Int), .int .i64 (xn : Int)] 24)), y.val.cell? ⟨w2.heap.size + 1, 1, none⟩ = some (.int .i64 (xn : Int)) := fun y => cell_on y.is (show ((w2.alloc (.cells #[.int .u32 (xa : Int), .int .i64 (xn : Int)] 24)).alloc (.cells #[.int .u32 (ya : Int), .int .i64 (xn : Int)] 24)).cell? ⟨w2.heap.size + 1, 1, none⟩ = some (.int .i64 (xn : Int)) from by simp [go_sem])
    refine wp_region_kin ((w2.alloc (.cells #[.int .u32 (xa : Int), .int .i64 (xn : Int)] 24)).alloc (.cells #[.int .u32 (ya : Int), .int .i64 (xn : Int)] 24)) (Below.refl _ _) (by kernel_rfl) (by kernel_rfl) ?_
    repeat (go_big_quiet_step (first | fail))
    refine wpQuiet_nil ?_
    rintro w3 ⟨⟨xq, hxq⟩, hyq⟩
    have hb3 : Below ((w2.alloc (.cells #[.int .u32 (xa : Int), .int .i64 (xn : Int)] 24)).alloc (.cells #[.int .u32 (ya : Int), .int .i64 (xn : Int)] 24)).heap.size ((w2.alloc (.cells #[.int .u32 (xa : Int), .int .i64 (xn : Int)] 24)).alloc (.cells #[.int .u32 (ya : Int), .int .i64 (xn : Int)] 24)) w3 := by rw [hyq]; exact hxq
    clear hyq hxq xq
    clear kne kc0 kc1 kc2 kc3 kc4 kc5 kc6
    have hz3 := hb3.size
    (try simp at hz3)
    have hl3_0 : w.heap.size < w3.heap.size := by omega
    have hl3_1 : w.heap.size + 1 < w3.heap.size := by omega
    have hl3_2 : w2.heap.size < w3.heap.size := by omega
    have hl3_3 : w2.heap.size + 1 < w3.heap.size := by omega
    have c3_0 : w3.cell? ⟨w.heap.size, 0, none⟩ = some (.int .u32 (a : Int)) := cell_on hb3 (cell_alloc (cell_alloc c2_0))
    have c3_1 : w3.cell? ⟨w.heap.size, 1, none⟩ = some (.int .i64 (n : Int)) := cell_on hb3 (cell_alloc (cell_alloc c2_1))
    have c3_2 : w3.cell? ⟨w.heap.size + 1, 0, none⟩ = some (.bool false) := cell_on hb3 (cell_alloc (cell_alloc c2_2))
    have f3_2 : w3.frozen? ⟨w.heap.size + 1, 0, none⟩ = false := frozen_on hb3 (cell_alloc (cell_alloc c2_2)) (frozen_alloc (cell_alloc c2_2) (frozen_alloc c2_2 f2_2))
    have c3_3 : w3.cell? ⟨w2.heap.size, 0, none⟩ = some (.int .u32 (xa : Int)) := cell_on hb3 (show ((w2.alloc (.cells #[.int .u32 (xa : Int), .int .i64 (xn : Int)] 24)).alloc (.cells #[.int .u32 (ya : Int), .int .i64 (xn : Int)] 24)).cell? ⟨w2.heap.size, 0, none⟩ = some (.int .u32 (xa : Int)) from by simp [go_sem])
    have c3_4 : w3.cell? ⟨w2.heap.size, 1, none⟩ = some (.int .i64 (xn : Int)) := cell_on hb3 (show ((w2.alloc (.cells #[.int .u32 (xa : Int), .int .i64 (xn : Int)] 24)).alloc (.cells #[.int .u32 (ya : Int), .int .i64 (xn : Int)] 24)).cell? ⟨w2.heap.size, 1, none⟩ = some (.int .i64 (xn : Int)) from by simp [go_sem])
    have c3_5 : w3.cell? ⟨w2.heap.size + 1, 0, none⟩ = some (.int .u32 (ya : Int)) := cell_on hb3 (show ((w2.alloc (.cells #[.int .u32 (xa : Int), .int .i64 (xn : Int)] 24)).alloc (.cells #[.int .u32 (ya : Int), .int .i64 (xn : Int)] 24)).cell? ⟨w2.heap.size + 1, 0, none⟩ = some (.int .u32 (ya : Int)) from by simp [go_sem])
    have c3_6 : w3.cell? ⟨w2.heap.size + 1, 1, none⟩ = some (.int .i64 (xn : Int)) := cell_on hb3 (show ((w2.alloc (.cells #[.int .u32 (xa : Int), .int .i64 (xn : Int)] 24)).alloc (.cells #[.int .u32 (ya : Int), .int .i64 (xn : Int)] 24)).cell? ⟨w2.heap.size + 1, 1, none⟩ = some (.int .i64 (xn : Int)) from by simp [go_sem])
    have hw3 : Below w.heap.size w w3 := by (repeat (first | assumption | exact Below.refl _ _ | refine Below.drew ?_ | refine bel_drewN ?_ _ | refine Below.setCell ?_ (by first | omega | (simp; done) | (simp; omega)) _ | refine Below.alloc ?_ (by first | omega | (simp; done) | (simp; omega)) _ | refine bel_of ?_ (by assumption)))
    clear hb3 hz2 hl2_0 hl2_1 c2_0 c2_1 c2_2 hw2
    go_wp2_with (fail)
    refine (above_any a n _).mono ?_
    rintro e w' ⟨rfl, hw⟩
    obtain rfl := hw
    have hnf := eq_nilFunc
    go_wp2_with (fail)
    refine (wpIn_wide (n := 9)).1 ?_
    refine range_px rfl (n₀ := w3.heap.size + 1) (by simp) (above_stops 8 (by decide) w3.heap.size (w3.heap.size + 1) a n ha hn ka _ (by omega) (by first | (simp; done) | (simp; omega)) (by simp [go_sem]) (by simp [go_sem]))
      (fun pre W => (W.cell? ⟨w.heap.size, 1, none⟩ = some (.int .i64 (n : Int)) ∧ W.cell? ⟨w.heap.size + 1, 0, none⟩ = some (.bool false) ∧ W.frozen? ⟨w.heap.size + 1, 0, none⟩ = false ∧ W.cell? ⟨w3.heap.size + 1, 0, none⟩ = some (.int .i64 (pre.length : Int)) ∧ W.frozen? ⟨w3.heap.size + 1, 0, none⟩ = false ∧ W.cell? ⟨w3.heap.size + 1 + 1, 0, none⟩ = some (.int .u32 (ct a (lj n pre.length) : Int)) ∧ W.cell? ⟨w3.heap.size + 1 + 1, 1, none⟩ = some (.int .i64 (lj n pre.length : Int)) ∧ W.frozen? ⟨w3.heap.size + 1 + 1, 0, none⟩ = false ∧ W.frozen? ⟨w3.heap.size + 1 + 1, 1, none⟩ = false) ∧ Below w.heap.size w W ∧ (((w3.alloc (.cells #[.int .u32 a, .int .i64 n] 24)).alloc (.cells #[.int .i64 0] 3)).alloc (.cells #[.int .u32 a, .int .i64 n] 24)).heap.size ≤ W.heap.size ∧ pre <+: desc a (n + 1))
      (fun c pre W => c = .ret ∧ ¬ pre <+: desc a (n + 1))
      ?hI (fun c s A B row hs _ _ => hs) ?h0 ?assign (fun _ _ h => h.2.2.1) ?body ?done ?stop
    case hI => exact OwnFrom.and (Own.from (fun s A B row hs hg hr => ⟨cell_kept hs.1 hg hr, cell_kept hs.2.1 hg hr, (frozen_kept hs.2.1 hg hr).trans hs.2.2.1, cell_kept hs.2.2.2.1 hg hr, (frozen_kept hs.2.2.2.1 hg hr).trans hs.2.2.2.2.1, cell_kept hs.2.2.2.2.2.1 hg hr, cell_kept hs.2.2.2.2.2.2.1 hg hr, (frozen_kept hs.2.2.2.2.2.1 hg hr).trans hs.2.2.2.2.2.2.2.1, (frozen_kept hs.2.2.2.2.2.2.1 hg hr).trans hs.2.2.2.2.2.2.2.2⟩) _) (OwnFrom.and (ownFrom_below (Nat.le_refl _) (by first | omega | (simp; done) | (simp; omega))) (fun _ _ _ _ hs hg _ => ⟨Nat.le_trans hs.1 hg.size, hs.2⟩))
    case h0 => exact ⟨⟨cell_alloc (cell_alloc (cell_alloc c3_1)), cell_alloc (cell_alloc (cell_alloc c3_2)), frozen_alloc (cell_alloc (cell_alloc c3_2)) (frozen_alloc (cell_alloc c3_2) (frozen_alloc c3_2 f3_2)), by simp [go_sem], by simp [go_sem], by simp [go_sem, lj, ct_self a n h0], by simp [go_sem, lj], by simp [go_sem], by simp [go_sem]⟩, by (repeat (first | assumption | exact Below.refl _ _ | refine Below.drew ?_ | refine bel_drewN ?_ _ | refine Below.setCell ?_ (by first | omega | (simp; done) | (simp; omega)) _ | refine Below.alloc ?_ (by first | omega | (simp; done) | (simp; omega)) _ | refine bel_of ?_ (by assumption))), Nat.le_refl _, List.nil_prefix⟩
    case assign =>
      intro l pre x W K hi hz hK
      simp only [List.setIfInBounds_toArray, List.set_cons_succ, List.set_cons_zero] at hK ⊢
      gi_wp2
      exact hK
    case stop =>
      rintro D c pre W hD hpre ⟨rfl, hbad⟩ hK
      exact absurd hpre hbad
    case done =>
      rintro D ys W hD hys ⟨⟨i0, i1, i2, i3, i4, i5, i6, i7, i8⟩, hbl, hzl, hpre⟩ hK
      go_wp2_with (fail)
      refine (awake_any _).mono ?_
      rintro e w7 ⟨rfl, hb7⟩
      have hlen : (ys.length : Int) = (n : Int) + 1 := by rw [hys, desc_length]; rfl
      rw [hlen] at i3
      have j0 := cell_on hb7 i0
      have j1 := cell_on hb7 i1
      have j2 := frozen_on hb7 i1 i2
      have j3 := cell_on hb7 i3
      have hK7 : w7.heap[D]? = some (.deferred (some [])) := (hb7.block D (Array.getElem?_eq_some_iff.1 hK).1).trans hK
      have hb7w : Hid (Below w.heap.size w w7) := hbl.trans (hb7.mono hbl.size)
      have hnb : (n : Int) ≤ 32 := by omega
      clear hhalf c3_0 c3_1 c3_2 c3_3 c3_4 c3_5 c3_6 hw3 hnf i0 i1 i2 i3 i4 i5 i6 i7 i8 hb7 hbl hlen hys hpre
      go_wp2
      have hK' := (KeepsOthers.setCell w7 ⟨w.heap.size + 1, 0, none⟩ (.bool true)).same D _ hK7 rfl
      refine ⟨by simp, .inl ⟨_, _, rfl, run_takeDeferred hK', ?_⟩⟩
      have hc5 := cell_kept (World.cell?_setCell_same' w7 ⟨w.heap.size + 1, 0, none⟩ (.bool true) (by rw [j1]; rfl)) (grownBy_putObj' _ D (.deferred none)) (fun r e => by cases e; exact ⟨_, hK', rfl⟩)
      refine ⟨.bool true, ?_, rfl, (hb7w.out.setCell (p := ⟨w.heap.size + 1, 0, none⟩) (by show w.heap.size ≤ w.heap.size + 1; omega) _).trans (belowK_b (w := w) (Nat.le_refl _) _ D _ _ (by simp at hD; omega) hK' rfl rfl)⟩
      simp [results, Try.results4, go_sem, hc5]
    case body =>
      rintro l pre ⟨⟨pa, pn⟩, hpa, hpn⟩ Bx W hBx x0 x1 ⟨⟨i0, i1, i2, i3, i4, i5, i6, i7, i8⟩, hbl, hzl, hpre⟩ hN
      simp only [List.setIfInBounds_toArray, List.set_cons_succ, List.set_cons_zero]
      rw [desc_length] at hN
      have hsz3 := hzl
      simp at hsz3
      have hBx3 := hBx
      simp at hBx3
      have hnx := next_iff a n ha hn hpre (by omega) pa pn ⟨hpa, hpn⟩
      obtain ⟨k, hk⟩ : ∃ k, k = pre.length := ⟨_, rfl⟩
      have hlj := lj_next n k (by omega)
      have hll := lj_le n k
      have hla : ct a (lj n k) < 4294967296 := ct_lt a _ ha
      rw [← hk] at i3 i5 i6 hnx hN
      generalize hQ : ownPostG _ _ _ _ _ _ = Q
      have hok : ∀ a' w5, Below W.heap.size W w5 → witB (ct a (lj n k)) (lj n k : Int) pa (pn : Int) = true → (pn : Int) = (n : Int) - (k : Int) → Q .normal a' (((w5.setCell ⟨w3.heap.size + 1 + 1, 0, none⟩ (.int .u32 (pa : Int))).setCell ⟨w3.heap.size + 1 + 1, 1, none⟩ (.int .i64 (pn : Int))).setCell ⟨w3.heap.size + 1, 0, none⟩ (.int .i64 ((k : Int) + 1))) := by
        intro a' w5 hb5 hw he
        rw [← hQ]
        obtain ⟨ep, en⟩ := (fit_iff a n k pa pn ha hn (by omega) hpa hpn).1 ⟨hw, he⟩
        have j0 := cell_on hb5 i0
        have j1 := cell_on hb5 i1
        have j2 := frozen_on hb5 i1 i2
        have j3 := cell_on hb5 i3
        have j4 := frozen_on hb5 i3 i4
        have j5 := cell_on hb5 i5
        have j6 := cell_on hb5 i6
        have j7 := frozen_on hb5 i5 i7
        have j8 := frozen_on hb5 i6 i8
        have hz5 := hb5.size
        have m1 : ¬ w.heap.size = w3.heap.size + 1 + 1 := by omega
        have m2 : ¬ w.heap.size = w3.heap.size + 1 := by omega
        have m3 : ¬ w.heap.size + 1 = w3.heap.size + 1 + 1 := by omega
        have m4 : ¬ w.heap.size + 1 = w3.heap.size + 1 := by omega
        have m5 : ¬ w3.heap.size + 1 = w3.heap.size + 1 + 1 := by omega
        have m6 : ¬ w3.heap.size + 1 + 1 = w3.heap.size + 1 := by omega
        refine ⟨((((KeepsOthers.of_grownBy (grown_of_below hb5) (fun j o e => by cases e)).trans (KeepsOthers.setCell _ _ _)).trans (KeepsOthers.setCell _ _ _)).trans (KeepsOthers.setCell _ _ _)).from _, ?_, ⟨?_, ?_, ?_, ?_, ?_, ?_, ?_, ?_, ?_⟩, ?_, ?_, hnx.2 ⟨hw, he⟩⟩
        · exact (((hb5.mono (show w3.heap.size + 1 ≤ W.heap.size by omega)).setCell (by show w3.heap.size + 1 ≤ w3.heap.size + 1 + 1; omega) _).setCell (by show w3.heap.size + 1 ≤ w3.heap.size + 1 + 1; omega) _).setCell (Nat.le_refl _) _
        · simp [go_sem, m1, m2, j0]
        · simp [go_sem, m3, m4, j1]
        · simp [go_sem, j2]
        · simp [go_sem, m5, j3, ← hk]
        · simp [go_sem, j4]
        · rw [List.length_append, ← hk]
          show _ = some (Value.int .u32 ((ct a (lj n (k + 1)) : Nat) : Int))
          rw [hlj, ← ep]
          simp [go_sem, m6, j5, j6]
        · rw [List.length_append, ← hk]
          show _ = some (Value.int .i64 ((lj n (k + 1) : Nat) : Int))
          rw [hlj, ← en]
          simp [go_sem, m6, j5, j6]
        · simp [go_sem, j7]
        · simp [go_sem, j8]
        · exact (((hbl.trans (hb5.mono (by omega))).setCell (by show w.heap.size ≤ w3.heap.size + 1 + 1; omega) _).setCell (by show w.heap.size ≤ w3.heap.size + 1 + 1; omega) _).setCell (by show w.heap.size ≤ w3.heap.size + 1; omega) _
        · simp [World.setCell]; omega
      have hbad : ∀ a' w5, Below W.heap.size W w5 → ¬ (witB (ct a (lj n k)) (lj n k : Int) pa (pn : Int) = true ∧ (pn : Int) = (n : Int) - (k : Int)) → Q .ret a' (w5.setCell ⟨w.heap.size + 1, 0, none⟩ (.bool false)) := by
        intro a' w5 hb5 hne
        rw [← hQ]
        exact ⟨((KeepsOthers.of_grownBy (grown_of_below hb5) (fun j o e => by cases e)).trans (KeepsOthers.setCell _ _ _)).from _, rfl, fun h => hne (hnx.1 h)⟩
      have hwi := fun V => within_any (ct a (lj n k)) (lj n k : Nat) pa pn V hla hpa
      generalize witB (ct a (lj n k)) (lj n k : Int) pa (pn : Int) = wb at hwi hok hbad
      generalize (ct a (lj n k)) = la at *
      generalize (lj n k) = ln at *
      clear hQ hbl hzl hpre hnx hlj hla hk hll hBx
      generalize Value.agg #[Value.int IntKind.u32 (a : Int), Value.int IntKind.i64 (n : Int)] = z1
      generalize Value.agg #[Value.int IntKind.u32 (xa : Int), Value.int IntKind.i64 (xn : Int)] = z2
      generalize Value.agg #[Value.int IntKind.u32 (ya : Int), Value.int IntKind.i64 (xn : Int)] = z3
      generalize Value.agg #[Value.int IntKind.u32 (pa : Int), Value.int IntKind.i64 (pn : Int)] = z4
      clear hhalf c3_0 c3_1 c3_2 c3_3 c3_4 c3_5 c3_6 hw3 hnf q1 q2 h32 ka h0
      have hne1 : ¬ w3.heap.size + 1 = w3.heap.size + 1 + 1 := by omega
      have hne2 : ¬ w3.heap.size + 1 + 1 = w3.heap.size + 1 := by omega
      have hne3 : ¬ Bx = w3.heap.size + 1 := by omega
      have hne4 : ¬ Bx = w3.heap.size + 1 + 1 := by omega
      have hkb : (k : Int) ≤ 32 := by omega
      have hnb : (n : Int) ≤ 32 := by omega
      have hk0 : (0 : Int) ≤ (k : Int) := by omega
      clear hsz3 hBx3 hz3 hl3_0 hl3_1 hl3_2 hl3_3 hN hn
      cases wb with
      | true =>
        by_cases he : (pn : Int) = (n : Int) - (k : Int)
        · have he2 : ((pn : Int) != (n : Int) - (k : Int)) = false := by simp [he]
          have hok2 := fun a' w5 hb => hok a' w5 hb rfl he
          clear hok hbad
          have HE : Hid _ := he
          clear he
          gi_wp2_with (refine ⟨trivial, ?_⟩; gi_at_call 16; refine (CallsIn.inRound l (callsIn_wide.2 (hwi _))).mono ?_; rintro e w5 ⟨rfl, hb5⟩; have j0 := cell_on hb5 i0; have j1 := cell_on hb5 i1; have j2 := frozen_on hb5 i1 i2; have j3 := cell_on hb5 i3; have j4 := frozen_on hb5 i3 i4; have j5 := cell_on hb5 i5; have j6 := cell_on hb5 i6; have j7 := frozen_on hb5 i5 i7; have j8 := frozen_on hb5 i6 i8; have jx0 := cell_on hb5 x0; have jx1 := cell_on hb5 x1; clear i0 i1 i2 i3 i4 i5 i6 i7 i8 x0 x1 hwi)
        · have he2 : ((pn : Int) != (n : Int) - (k : Int)) = true := by simp [he]
          have hbad2 := fun a' w5 hb => hbad a' w5 hb (fun h => he h.2)
          clear hok hbad
          clear he
          gi_wp2_with (refine ⟨trivial, ?_⟩; gi_at_call 16; refine (CallsIn.inRound l (callsIn_wide.2 (hwi _))).mono ?_; rintro e w5 ⟨rfl, hb5⟩; have j0 := cell_on hb5 i0; have j1 := cell_on hb5 i1; have j2 := frozen_on hb5 i1 i2; have j3 := cell_on hb5 i3; have j4 := frozen_on hb5 i3 i4; have j5 := cell_on hb5 i5; have j6 := cell_on hb5 i6; have j7 := frozen_on hb5 i5 i7; have j8 := frozen_on hb5 i6 i8; have jx0 := cell_on hb5 x0; have jx1 := cell_on hb5 x1; clear i0 i1 i2 i3 i4 i5 i6 i7 i8 x0 x1 hwi)
      | false =>
        have hbad2 := fun a' w5 hb => hbad a' w5 hb (fun h => by cases h.1)
        clear hok hbad
        gi_wp2_with (refine ⟨trivial, ?_⟩; gi_at_call 16; refine (CallsIn.inRound l (callsIn_wide.2 (hwi _))).mono ?_; rintro e w5 ⟨rfl, hb5⟩; have j0 := cell_on hb5 i0; have j1 := cell_on hb5 i1; have j2 := frozen_on hb5 i1 i2; have j3 := cell_on hb5 i3; have j4 := frozen_on hb5 i3 i4; have j5 := cell_on hb5 i5; have j6 := cell_on hb5 i6; have j7 := frozen_on hb5 i5 i7; have j8 := frozen_on hb5 i6 i8; have jx0 := cell_on hb5 x0; have jx1 := cell_on hb5 x1; clear i0 i1 i2 i3 i4 i5 i6 i7 i8 x0 x1 hwi)
set_option maxHeartbeats 1000000 in
theorem halved_bad (a x : Nat) (n : Int) (ha : a < 4294967296) (h : chk a n ≠ 0) (w : World) :
    Calls Try.prog 4 #[.agg #[.int .u32 a, .int .i64 n], .int .u32 (x : Int)] w fun e w' => e = .returned (.bool true) ∧ Below w.heap.size w w' := by
  have hr := fun W => rcheck_any a n W ha
  generalize chk a n = c at hr h
  have hc : (c != 0) = true := by simpa using h
  have hc' : ¬ c = 0 := h
  clear h
  go_enter Try.func4, Try.ntmps4
  go_wp2_with (fail)
  refine (hr _).mono ?_
  rintro e w1 ⟨rfl, hb1⟩
  have hz1 := hb1.size
  (try simp at hz1)
  have hl1_0 : w.heap.size < w1.heap.size := by omega
  have hl1_1 : w.heap.size + 1 < w1.heap.size := by omega
  have c1_0 : w1.cell? ⟨w.heap.size, 0, none⟩ = some (.int .u32 (a : Int)) := cell_on hb1 (show ((w.alloc (.cells #[.int .u32 (a : Int), .int .i64 n] 24)).alloc (.cells #[.bool false] 4)).cell? ⟨w.heap.size, 0, none⟩ = some (.int .u32 (a : Int)) from by simp [go_sem])
  have c1_1 : w1.cell? ⟨w.heap.size, 1, none⟩ = some (.int .i64 n) := cell_on hb1 (show ((w.alloc (.cells #[.int .u32 (a : Int), .int .i64 n] 24)).alloc (.cells #[.bool false] 4)).cell? ⟨w.heap.size, 1, none⟩ = some (.int .i64 n) from by simp [go_sem])
  have c1_2 : w1.cell? ⟨w.heap.size + 1, 0, none⟩ = some (.bool false) := cell_on hb1 (show ((w.alloc (.cells #[.int .u32 (a : Int), .int .i64 n] 24)).alloc (.cells #[.bool false] 4)).cell? ⟨w.heap.size + 1, 0, none⟩ = some (.bool false) from by simp [go_sem])
  have f1_2 : w1.frozen? ⟨w.heap.size + 1, 0, none⟩ = false := frozen_on hb1 (show ((w.alloc (.cells #[.int .u32 (a : Int), .int .i64 n] 24)).alloc (.cells #[.bool false] 4)).cell? ⟨w.heap.size + 1, 0, none⟩ = some (.bool false) from by simp [go_sem]) (show ((w.alloc (.cells #[.int .u32 (a : Int), .int .i64 n] 24)).alloc (.cells #[.bool false] 4)).frozen? ⟨w.heap.size + 1, 0, none⟩ = false from by simp [go_sem])
  have hw1 : Below w.heap.size w w1 := by (repeat (first | assumption | exact Below.refl _ _ | refine Below.drew ?_ | refine bel_drewN ?_ _ | refine Below.setCell ?_ (by first | omega | (simp; done) | (simp; omega)) _ | refine Below.alloc ?_ (by first | omega | (simp; done) | (simp; omega)) _ | refine bel_of ?_ (by assumption)))
  clear hb1
  go_wp2_with (fail)
  refine (awake_any _).mono ?_
  rintro e w2 ⟨rfl, hb2⟩
  have hz2 := hb2.size
  (try simp at hz2)
  have hl2_0 : w.heap.size < w2.heap.size := by omega
  have hl2_1 : w.heap.size + 1 < w2.heap.size := by omega
  have c2_0 : w2.cell? ⟨w.heap.size, 0, none⟩ = some (.int .u32 (a : Int)) := cell_on hb2 c1_0
  have c2_1 : w2.cell? ⟨w.heap.size, 1, none⟩ = some (.int .i64 n) := cell_on hb2 c1_1
  have c2_2 : w2.cell? ⟨w.heap.size + 1, 0, none⟩ = some (.bool false) := cell_on hb2 c1_2
  have f2_2 : w2.frozen? ⟨w.heap.size + 1, 0, none⟩ = false := frozen_on hb2 c1_2 f1_2
  have hw2 : Below w.heap.size w w2 := by (repeat (first | assumption | exact Below.refl _ _ | refine Below.drew ?_ | refine bel_drewN ?_ _ | refine Below.setCell ?_ (by first | omega | (simp; done) | (simp; omega)) _ | refine Below.alloc ?_ (by first | omega | (simp; done) | (simp; omega)) _ | refine bel_of ?_ (by assumption)))
  clear hb2 hz1 hl1_0 hl1_1 c1_0 c1_1 c1_2 hw1
  go_wp2
  exact bodyPost_ret (v := .bool true) (by simp [results, Try.results4, go_sem, c2_2]) rfl ⟨rfl, by (repeat (first | assumption | exact Below.refl _ _ | refine Below.drew ?_ | refine bel_drewN ?_ _ | refine Below.setCell ?_ (by first | omega | (simp; done) | (simp; omega)) _ | refine Below.alloc ?_ (by first | omega | (simp; done) | (simp; omega)) _ | refine bel_of ?_ (by assumption)))⟩

theorem prefixHalved_walk (a : Nat) (n : Int) (ha : a < 4294967296) (x : Nat) (hx : x < 4294967296) (w : World) :
    Calls Try.prog 4 #[.agg #[.int .u32 a, .int .i64 n], .int .u32 (x : Int)] w fun e w' => e = .returned (.bool true) ∧ Below w.heap.size w w' := by
  by_cases h : chk a n = 0
  · obtain ⟨m, rfl, hm, h0⟩ := chk_ok h
    exact halved_good a m x ha hx hm h0 w
  · exact halved_bad a x n ha h w

set_option maxRecDepth 100000 in
theorem prefixHalved_lifted (os : Os) (started : os.Started) (H : Type) (enc : TypeId × Value → H) :
    ReturnsInHanded {} Try.checked os 4 .any (Rows.prefixHalvedSpec.pre6 enc Try.prog Try.f4 Rows.prefixHalvedRow.domain false) (Rows.prefixHalvedSpec.post enc Try.prog Try.f4 false true false false) := by
  refine returnsInHanded_of_change (C := Try.checked) own started (by kernel_rfl) Try.func4
    (ChangeSpec.witness6 (enc := enc) (C := Try.checked) false ⟨#[], #[.agg #[.int .u32 0, .int .i64 0], .int .u32 0], []⟩ 8 (by kernel_rfl) (by kernel_rfl) (by kernel_rfl) (by kernel_rfl)) ?_
  intro W base args ds gs before hval0 hW hcnd _
  have hval : ∀ (j : Nat) t v, Try.f4.params[j]? = some t → args[j]? = some v → Value.okWide Try.prog W .any base t v := hval0
  have hW' := hW
  obtain ⟨p, q, hA0, hV, rfl, hfz, hnd⟩ := hW
  have hA : DataW.TrodAll enc Try.prog W 0 (fun _ => true) true Try.f4.params.toList args.toList ds p := hA0
  rw [Try.params4] at hA hval
  obtain ⟨v0, vs0, d0, ds0, p0, q0, hargs, rfl, rfl, h0, r0⟩ := trodAll_cons hA
  obtain ⟨v1, vs1, d1, ds1, p1, q1, rfl, rfl, rfl, h1, r1⟩ := trodAll_cons r0
  obtain ⟨rfl, rfl, rfl⟩ := trodAll_nil r1
  obtain rfl : args = #[v0, v1] := by cases args; simp_all
  obtain ⟨rfl, rfl⟩ := trodVars_none hV
  obtain ⟨a0, n0, rfl, rfl, rfl, w0, x0⟩ := open_px (hval 0 24 v0 rfl rfl) h0
  obtain ⟨b0, rfl, t0⟩ := wf_u32 w0
  obtain ⟨a1, rfl, rfl, rfl, w1⟩ := open_int Try.underlying22 (hval 1 22 v1 rfl rfl) h1
  obtain ⟨b1, rfl, t1⟩ := wf_u32 w1
  clear hA0 hval0
  simp only [List.append_nil] at hW'
  refine (prefixHalved_walk b0 n0 t0 b1 t1 W).mono fun e W' ⟨he, bel⟩ => ?_
  subst he
  exact ⟨_, rfl, _, _, _, [], _, [], hW', trodAll_mk1 (shut_bool Try.underlying4 _), (trodAll_cons_mk (shut_px w0 x0) (trodAll_cons_mk (shut_int Try.underlying22 w1) trodAll_mk0)), rfl, bel.frame _, fun h => by cases h⟩

/-- The given statement. -/
theorem prefixHalved_holds : Rows.PrefixHalvedSaid :=
  OpenClaim.holds_of_wide 4 Try.f4 rfl rfl rfl rfl rfl rfl rfl ⟨rfl, rfl, rfl, rfl, rfl⟩ rfl rfl rfl rfl rfl (by kernel_rfl) Try.func4 (by kernel_rfl)
    (of_decide_eq_true (by kernel_rfl)) (by unfold Func.isWrapper; first | (rw [if_pos (by decide +kernel)]; kernel_rfl) | (rw [if_neg (by decide +kernel)]; exact ⟨rfl, rfl⟩))
    (fun os started H enc _ => prefixHalved_lifted os started H enc)
#print axioms prefixHalved_holds
end Go.Proofs.Ythmekipdhlipbaa
