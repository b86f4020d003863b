/-
  The law ExpandChecks, out of what the functions of expand hand back.
-/
import Derived.Test.YtapaoemcjpfpoaaExAw
namespace Go.Proofs.Ytapaoemcjpfpoaa
open Go.RowKit
set_option linter.unusedVariables false
set_option linter.unusedSimpArgs false

set_option maxHeartbeats 4000000 in
theorem expandChecks_any (b : Nat) (n : Int) (q x z : Nat) (er ck : Int) (hh : Bool)
    (c1 : ∀ W, Calls Try.prog 9 #[.agg #[.int .u16 b, .int .i64 n]] W fun e w' => e = .returned (.tuple #[.agg #[.int .u16 (x : Nat), .int .u16 (z : Nat)], .int .i64 er]) ∧ Below W.heap.size W w')
    (c2 : ∀ W, Calls Try.prog 10 #[.agg #[.int .u16 b, .int .i64 n]] W fun e w' => e = .returned (.tuple #[.agg #[.int .u16 (x : Nat), .int .u16 (z : Nat)], .int .i64 er]) ∧ Below W.heap.size W w')
    (c3 : ∀ W, Calls Try.prog 12 #[.agg #[.int .u16 b, .int .i64 n]] W fun e w' => e = .returned (.int .i64 ck) ∧ Below W.heap.size W w')
    (c4 : ∀ W, Calls Try.prog 13 #[.agg #[.int .u16 b, .int .i64 n]] W fun e w' => e = .returned (.int .i64 ck) ∧ Below W.heap.size W w')
    (c5 : ∀ W, Calls Try.prog 14 #[.agg #[.int .u16 b, .int .i64 n], .int .u16 q] W fun e w' => e = .returned (.bool hh) ∧ Below W.heap.size W w')
    (c6 : ∀ W, Calls Try.prog 15 #[.agg #[.int .u16 b, .int .i64 n], .int .u16 q] W fun e w' => e = .returned (.bool hh) ∧ Below W.heap.size W w')
    (ca : ∀ W, Calls Try.prog 11 #[] W fun e w' => e = .returned (.bool true) ∧ Below W.heap.size W w') (w : World) :
    Calls Try.prog 3 #[.agg #[.int .u16 b, .int .i64 n], .int .u16 q] w fun e w' => e = .returned (.bool true) ∧ Below w.heap.size w w' := by
  go_enter Try.func3, Try.ntmps3
  go_wp2_with (fail)
  refine (c1 _).mono ?_
  rintro e w1 ⟨rfl, hb1⟩
  have hz1 := hb1.size
  (try simp at hz1)
  have a0_1 : w1.cell? ⟨w.heap.size, 0, none⟩ = some (.int .u16 b) := cell_on hb1 (show (w.alloc (.cells #[.int .u16 b, .int .i64 n] 24)).cell? ⟨w.heap.size, 0, none⟩ = some (.int .u16 b) from by simp [go_sem])
  have a1_1 : w1.cell? ⟨w.heap.size, 1, none⟩ = some (.int .i64 n) := cell_on hb1 (show (w.alloc (.cells #[.int .u16 b, .int .i64 n] 24)).cell? ⟨w.heap.size, 1, none⟩ = some (.int .i64 n) from by simp [go_sem])
  have hg1_0 : w.heap.size < w1.heap.size := by omega
  have hl1 : w.heap.size ≤ w1.heap.size := by omega
  have hw1 : Hid (Below w.heap.size w w1) := ((Below.refl _ _).alloc (by first | omega | (simp; done) | (simp; omega)) _).trans (hb1.mono (by first | omega | (simp; done) | (simp; omega)))
  clear hb1
  go_wp2_with (fail)
  refine (c2 _).mono ?_
  rintro e w2 ⟨rfl, hb2⟩
  have hz2 := hb2.size
  (try simp at hz2)
  have a0_2 : w2.cell? ⟨w.heap.size, 0, none⟩ = some (.int .u16 b) := cell_on hb2 (cell_alloc a0_1)
  have a1_2 : w2.cell? ⟨w.heap.size, 1, none⟩ = some (.int .i64 n) := cell_on hb2 (cell_alloc a1_1)
  have m0_2 : w2.cell? ⟨w1.heap.size, 0, none⟩ = some (.int .u16 x) := cell_on hb2 (show (w1.alloc (.cells #[.int .u16 x, .int .u16 z] 26)).cell? ⟨w1.heap.size, 0, none⟩ = some (.int .u16 x) from by simp [go_sem])
  have m1_2 : w2.cell? ⟨w1.heap.size, 1, none⟩ = some (.int .u16 z) := cell_on hb2 (show (w1.alloc (.cells #[.int .u16 x, .int .u16 z] 26)).cell? ⟨w1.heap.size, 1, none⟩ = some (.int .u16 z) from by simp [go_sem])
  have hg2_0 : w.heap.size < w2.heap.size := by omega
  have hg2_1 : w1.heap.size < w2.heap.size := by omega
  have hl2 : w.heap.size ≤ w2.heap.size := by omega
  have hw2 : Hid (Below w.heap.size w w2) := (hw1.out.alloc (by first | omega | (simp; done) | (simp; omega)) _).trans (hb2.mono (by first | omega | (simp; done) | (simp; omega)))
  clear hb2 a0_1 a1_1 hg1_0 hw1
  go_wp2_with (fail)
  have kne : Nonempty (Kin (w2.alloc (.cells #[.int .u16 x, .int .u16 z] 26))) := ⟨⟨_, Below.refl _ _⟩⟩
  have kc0 : ∀ y : Kin (w2.alloc (.cells #[.int .u16 x, .int .u16 z] 26)), y.val.cell? ⟨w.heap.size, 0, none⟩ = some (.int .u16 b) := fun y => cell_on y.is (cell_alloc a0_2)
  have kc1 : ∀ y : Kin (w2.alloc (.cells #[.int .u16 x, .int .u16 z] 26)), y.val.cell? ⟨w.heap.size, 1, none⟩ = some (.int .i64 n) := fun y => cell_on y.is (cell_alloc a1_2)
  have kc2 : ∀ y : Kin (w2.alloc (.cells #[.int .u16 x, .int .u16 z] 26)), y.val.cell? ⟨w1.heap.size, 0, none⟩ = some (.int .u16 x) := fun y => cell_on y.is (cell_alloc m0_2)
  have kc3 : ∀ y : Kin (w2.alloc (.cells #[.int .u16 x, .int .u16 z] 26)), y.val.cell? ⟨w1.heap.size, 1, none⟩ = some (.int .u16 z) := fun y => cell_on y.is (cell_alloc m1_2)
  have kc4 : ∀ y : Kin (w2.alloc (.cells #[.int .u16 x, .int .u16 z] 26)), y.val.cell? ⟨w2.heap.size, 0, none⟩ = some (.int .u16 x) := fun y => cell_on y.is (show (w2.alloc (.cells #[.int .u16 x, .int .u16 z] 26)).cell? ⟨w2.heap.size, 0, none⟩ = some (.int .u16 x) from by simp [go_sem])
  have kc5 : ∀ y : Kin (w2.alloc (.cells #[.int .u16 x, .int .u16 z] 26)), y.val.cell? ⟨w2.heap.size, 1, none⟩ = some (.int .u16 z) := fun y => cell_on y.is (show (w2.alloc (.cells #[.int .u16 x, .int .u16 z] 26)).cell? ⟨w2.heap.size, 1, none⟩ = some (.int .u16 z) from by simp [go_sem])
  refine wp_region_kin (w2.alloc (.cells #[.int .u16 x, .int .u16 z] 26)) (Below.refl _ _) (by kernel_rfl) (by kernel_rfl) ?_
  repeat (go_big_quiet_step (first | (go_at_call 11; exact kin_call (ca _)) | (go_at_call 12; exact kin_call (c3 _)) | (go_at_call 13; exact kin_call (c4 _)) | (go_at_call 14; exact kin_call (c5 _)) | (go_at_call 15; exact kin_call (c6 _))))
  refine wpQuiet_nil ?_
  rintro w3 ⟨⟨xq, hxq⟩, hyq⟩
  have hb3 : Below (w2.alloc (.cells #[.int .u16 x, .int .u16 z] 26)).heap.size (w2.alloc (.cells #[.int .u16 x, .int .u16 z] 26)) w3 := by rw [hyq]; exact hxq
  clear hyq hxq xq
  clear kne kc0 kc1 kc2 kc3 kc4 kc5
  have hz3 := hb3.size
  (try simp at hz3)
  have a0_3 : w3.cell? ⟨w.heap.size, 0, none⟩ = some (.int .u16 b) := cell_on hb3 (cell_alloc a0_2)
  have a1_3 : w3.cell? ⟨w.heap.size, 1, none⟩ = some (.int .i64 n) := cell_on hb3 (cell_alloc a1_2)
  have m0_3 : w3.cell? ⟨w1.heap.size, 0, none⟩ = some (.int .u16 x) := cell_on hb3 (cell_alloc m0_2)
  have m1_3 : w3.cell? ⟨w1.heap.size, 1, none⟩ = some (.int .u16 z) := cell_on hb3 (cell_alloc m1_2)
  have k0_3 : w3.cell? ⟨w2.heap.size, 0, none⟩ = some (.int .u16 x) := cell_on hb3 (show (w2.alloc (.cells #[.int .u16 x, .int .u16 z] 26)).cell? ⟨w2.heap.size, 0, none⟩ = some (.int .u16 x) from by simp [go_sem])
  have k1_3 : w3.cell? ⟨w2.heap.size, 1, none⟩ = some (.int .u16 z) := cell_on hb3 (show (w2.alloc (.cells #[.int .u16 x, .int .u16 z] 26)).cell? ⟨w2.heap.size, 1, none⟩ = some (.int .u16 z) from by simp [go_sem])
  have hg3_0 : w.heap.size < w3.heap.size := by omega
  have hg3_1 : w1.heap.size < w3.heap.size := by omega
  have hg3_2 : w2.heap.size < w3.heap.size := by omega
  have hl3 : w.heap.size ≤ w3.heap.size := by omega
  have hw3 : Hid (Below w.heap.size w w3) := (hw2.out.alloc (by first | omega | (simp; done) | (simp; omega)) _).trans (hb3.mono (by first | omega | (simp; done) | (simp; omega)))
  clear hb3 a0_2 a1_2 m0_2 m1_2 hg2_0 hg2_1 hw2
  go_wp2
  go_ret
  exact ⟨rfl, hw3.out⟩
theorem expandChecks_core (hChk : ChkC) (hHas : HasC) (hN : SpnN) (hC : SpnC)
    (ca : ∀ W, Calls Try.prog 11 #[] W fun e w' => e = .returned (.bool true) ∧ Below W.heap.size W w') (b : Nat) (n : Int) (hb : b < 65536) (q : Nat) (hq : q < 65536) (w : World) :
    Calls Try.prog 3 #[.agg #[.int .u16 b, .int .i64 n], .int .u16 q] w fun e w' => e = .returned (.bool true) ∧ Below w.heap.size w w' := by
  cases h : mayT b n
  · exact expandChecks_any b n q 0 0 50 _ _ (fun W => hN b n W hb h) (fun W => rspan_no b n W hb h) (fun W => hChk b n W hb) (fun W => rcheckT b n W hb) (fun W => hHas b n q W hb hq) (fun W => rhasT b n q W hb hq) ca w
  · exact expandChecks_any b n q b (topT b n) 0 _ _ (fun W => hC b n W hb h) (fun W => rspan_ok b n W hb h) (fun W => hChk b n W hb) (fun W => rcheckT b n W hb) (fun W => hHas b n q W hb hq) (fun W => rhasT b n q W hb hq) ca w
end Go.Proofs.Ytapaoemcjpfpoaa
