/-
  Has of the document's answer. Written by tools/mkBxR2.py.
-/
import Derived.Test.YthggiblkehcfaaaBxK
import Derived.Test.YthggiblkehcfaaaBxW
namespace Go.Proofs.Ythggiblkehcfaaa
open Go.RowKit
set_option linter.unusedVariables false
set_option linter.unusedSimpArgs false

/-- Four tests, up to the first that fails. -/
theorem four (p1 p2 p3 p4 : Prop) [Decidable p1] [Decidable p2] [Decidable p3] [Decidable p4] {C : Prop}
    (h1 : decide p1 = false → C) (h2 : decide p1 = true → decide p2 = false → C) (h3 : decide p1 = true → decide p2 = true → decide p3 = false → C)
    (h4 : decide p1 = true → decide p2 = true → decide p3 = true → decide p4 = false → C) (h5 : decide p1 = true → decide p2 = true → decide p3 = true → decide p4 = true → C) : C := by
  cases e1 : decide p1
  · exact h1 e1
  · cases e2 : decide p2
    · exact h2 e1 e2
    · cases e3 : decide p3
      · exact h3 e1 e2 e3
      · cases e4 : decide p4
        · exact h4 e1 e2 e3 e4
        · exact h5 e1 e2 e3 e4
theorem hasI_two (s : Nat × Nat) (x : Nat) : hasI s x = (decide (s.1 ≤ x) && decide (x ≤ s.2)) := by unfold hasI; exact Bool.decide_and _ _
set_option maxRecDepth 20000 in
set_option maxHeartbeats 4000000 in
theorem rhasX (X : Bx) (h : Hd) (w : World) (b : BdX X) (o : OkH h) : Calls Try.prog 15 #[.agg #[.int .u32 (X.a.1 : Int), .int .u32 (X.a.2 : Int), .int .u32 (X.b.1 : Int), .int .u32 (X.b.2 : Int), .int .u16 (X.c.1 : Int), .int .u16 (X.c.2 : Int), .int .u16 (X.d.1 : Int), .int .u16 (X.d.2 : Int), .int .u8 (X.m.1 : Int), .int .u8 (X.m.2 : Int)], .agg #[.int .u32 (h.s : Int), .int .u32 (h.d : Int), .int .u16 (h.p : Int), .int .u16 (h.q : Int), .int .u8 (h.r : Int)]] w fun e w' => e = .returned (.bool (hasH X h)) ∧ Below w.heap.size w w' := by
  have hC := fun W => rcheckX X W b
  have hM := fun W => rhasM X.m.1 X.m.2 h.r W b.2.2.2.2.2.2.2.2.1 b.2.2.2.2.2.2.2.2.2 o.2.2.2.2
  cases ho : okX X
  · have hn : ¬ chkX X = 0 := fun e => by rw [chkX_ok, ho] at e; cases e
    rw [show hasH X h = false by unfold hasH hasX; rw [ho]; rfl]
    generalize chkX X = cc at *
    clear ho b o hM
    go_enter Try.func15, Try.ntmps15
    go_wp2_with (fail)
    refine (hC _).mono ?_
    rintro e w1 ⟨rfl, hb1⟩
    go_wp2
    go_ret
    exact ⟨rfl, by (repeat (first | assumption | exact Below.refl _ _ | refine Below.drew ?_ | refine bel_drewN ?_ _ | refine Below.setCell ?_ (by first | omega | (simp; done) | (simp; omega)) _ | refine Below.alloc ?_ (by first | omega | (simp; done) | (simp; omega)) _ | refine bel_of ?_ (by assumption)))⟩
  · rw [chkX_ok.2 ho] at hC
    have he : hasH X h = ((decide (X.a.1 ≤ h.s) && decide (h.s ≤ X.a.2) && (decide (X.b.1 ≤ h.d) && decide (h.d ≤ X.b.2)) && (decide (X.c.1 ≤ h.p) && decide (h.p ≤ X.c.2)) && (decide (X.d.1 ≤ h.q) && decide (h.q ≤ X.d.2))) && hasM X.m.1 X.m.2 h.r) := by
      unfold hasH hasX
      rw [ho, Bool.true_and, hasI_two, hasI_two, hasI_two, hasI_two]
    generalize hasM X.m.1 X.m.2 h.r = m at *
    generalize hasH X h = r at *
    have HE : Hid (r = _) := he
    clear ho b o he
    go_enter Try.func15, Try.ntmps15
    go_wp2_with (fail)
    refine (hC _).mono ?_
    rintro e w1 ⟨rfl, hb1⟩
    have hX1 := blk_on (blk_alloc (blk_new w (.cells #[.int .u32 (X.a.1 : Int), .int .u32 (X.a.2 : Int), .int .u32 (X.b.1 : Int), .int .u32 (X.b.2 : Int), .int .u16 (X.c.1 : Int), .int .u16 (X.c.2 : Int), .int .u16 (X.d.1 : Int), .int .u16 (X.d.2 : Int), .int .u8 (X.m.1 : Int), .int .u8 (X.m.2 : Int)] 33)) (.cells #[.int .u32 (h.s : Int), .int .u32 (h.d : Int), .int .u16 (h.p : Int), .int .u16 (h.q : Int), .int .u8 (h.r : Int)] 25)) hb1
    have hH1 : w1.heap[w.heap.size + 1]? = some (.cells #[.int .u32 (h.s : Int), .int .u32 (h.d : Int), .int .u16 (h.p : Int), .int .u16 (h.q : Int), .int .u8 (h.r : Int)] 25) := blk_on (by simpa using blk_new (w.alloc (.cells #[.int .u32 (X.a.1 : Int), .int .u32 (X.a.2 : Int), .int .u32 (X.b.1 : Int), .int .u32 (X.b.2 : Int), .int .u16 (X.c.1 : Int), .int .u16 (X.c.2 : Int), .int .u16 (X.d.1 : Int), .int .u16 (X.d.2 : Int), .int .u8 (X.m.1 : Int), .int .u8 (X.m.2 : Int)] 33)) (.cells #[.int .u32 (h.s : Int), .int .u32 (h.d : Int), .int .u16 (h.p : Int), .int .u16 (h.q : Int), .int .u8 (h.r : Int)] 25)) hb1
    obtain ⟨c0, c1, c2, c3, c4, c5, c6, c7, c8, c9⟩ := blk10 hX1
    obtain ⟨d0, d1, d2, d3, d4⟩ := blk5 hH1
    have hbl : Hid (Below w.heap.size w w1) := by show Below _ _ _; (repeat (first | assumption | exact Below.refl _ _ | refine Below.drew ?_ | refine bel_drewN ?_ _ | refine Below.setCell ?_ (by first | omega | (simp; done) | (simp; omega)) _ | refine Below.alloc ?_ (by first | omega | (simp; done) | (simp; omega)) _ | refine bel_of ?_ (by assumption)))
    clear hb1 hC hX1 hH1
    refine four (X.a.1 ≤ h.s) (h.s ≤ X.a.2) (X.b.1 ≤ h.d) (h.d ≤ X.b.2) ?_ ?_ ?_ ?_ ?_
    · intro p1
      refine four (X.c.1 ≤ h.p) (h.p ≤ X.c.2) (X.d.1 ≤ h.q) (h.q ≤ X.d.2) ?_ ?_ ?_ ?_ ?_
      · intro q1
        have HR : Hid (r = false) := by show _ = _; rw [HE.out, p1, q1]; simp
        clear hM
        go_wp2
        go_ret
        exact ⟨ret_same HR.out.symm, hbl.out⟩
      · intro q1 q2
        have HR : Hid (r = false) := by show _ = _; rw [HE.out, p1, q1, q2]; simp
        clear hM
        go_wp2
        go_ret
        exact ⟨ret_same HR.out.symm, hbl.out⟩
      · intro q1 q2 q3
        have HR : Hid (r = false) := by show _ = _; rw [HE.out, p1, q1, q2, q3]; simp
        clear hM
        go_wp2
        go_ret
        exact ⟨ret_same HR.out.symm, hbl.out⟩
      · intro q1 q2 q3 q4
        have HR : Hid (r = false) := by show _ = _; rw [HE.out, p1, q1, q2, q3, q4]; simp
        clear hM
        go_wp2
        go_ret
        exact ⟨ret_same HR.out.symm, hbl.out⟩
      · intro q1 q2 q3 q4
        have HR : Hid (r = false) := by show _ = _; rw [HE.out, p1, q1, q2, q3, q4]; simp
        clear hM
        go_wp2
        go_ret
        exact ⟨ret_same HR.out.symm, hbl.out⟩
    · intro p1 p2
      refine four (X.c.1 ≤ h.p) (h.p ≤ X.c.2) (X.d.1 ≤ h.q) (h.q ≤ X.d.2) ?_ ?_ ?_ ?_ ?_
      · intro q1
        have HR : Hid (r = false) := by show _ = _; rw [HE.out, p1, p2, q1]; simp
        clear hM
        go_wp2
        go_ret
        exact ⟨ret_same HR.out.symm, hbl.out⟩
      · intro q1 q2
        have HR : Hid (r = false) := by show _ = _; rw [HE.out, p1, p2, q1, q2]; simp
        clear hM
        go_wp2
        go_ret
        exact ⟨ret_same HR.out.symm, hbl.out⟩
      · intro q1 q2 q3
        have HR : Hid (r = false) := by show _ = _; rw [HE.out, p1, p2, q1, q2, q3]; simp
        clear hM
        go_wp2
        go_ret
        exact ⟨ret_same HR.out.symm, hbl.out⟩
      · intro q1 q2 q3 q4
        have HR : Hid (r = false) := by show _ = _; rw [HE.out, p1, p2, q1, q2, q3, q4]; simp
        clear hM
        go_wp2
        go_ret
        exact ⟨ret_same HR.out.symm, hbl.out⟩
      · intro q1 q2 q3 q4
        have HR : Hid (r = false) := by show _ = _; rw [HE.out, p1, p2, q1, q2, q3, q4]; simp
        clear hM
        go_wp2
        go_ret
        exact ⟨ret_same HR.out.symm, hbl.out⟩
    · intro p1 p2 p3
      refine four (X.c.1 ≤ h.p) (h.p ≤ X.c.2) (X.d.1 ≤ h.q) (h.q ≤ X.d.2) ?_ ?_ ?_ ?_ ?_
      · intro q1
        have HR : Hid (r = false) := by show _ = _; rw [HE.out, p1, p2, p3, q1]; simp
        clear hM
        go_wp2
        go_ret
        exact ⟨ret_same HR.out.symm, hbl.out⟩
      · intro q1 q2
        have HR : Hid (r = false) := by show _ = _; rw [HE.out, p1, p2, p3, q1, q2]; simp
        clear hM
        go_wp2
        go_ret
        exact ⟨ret_same HR.out.symm, hbl.out⟩
      · intro q1 q2 q3
        have HR : Hid (r = false) := by show _ = _; rw [HE.out, p1, p2, p3, q1, q2, q3]; simp
        clear hM
        go_wp2
        go_ret
        exact ⟨ret_same HR.out.symm, hbl.out⟩
      · intro q1 q2 q3 q4
        have HR : Hid (r = false) := by show _ = _; rw [HE.out, p1, p2, p3, q1, q2, q3, q4]; simp
        clear hM
        go_wp2
        go_ret
        exact ⟨ret_same HR.out.symm, hbl.out⟩
      · intro q1 q2 q3 q4
        have HR : Hid (r = false) := by show _ = _; rw [HE.out, p1, p2, p3, q1, q2, q3, q4]; simp
        clear hM
        go_wp2
        go_ret
        exact ⟨ret_same HR.out.symm, hbl.out⟩
    · intro p1 p2 p3 p4
      refine four (X.c.1 ≤ h.p) (h.p ≤ X.c.2) (X.d.1 ≤ h.q) (h.q ≤ X.d.2) ?_ ?_ ?_ ?_ ?_
      · intro q1
        have HR : Hid (r = false) := by show _ = _; rw [HE.out, p1, p2, p3, p4, q1]; simp
        clear hM
        go_wp2
        go_ret
        exact ⟨ret_same HR.out.symm, hbl.out⟩
      · intro q1 q2
        have HR : Hid (r = false) := by show _ = _; rw [HE.out, p1, p2, p3, p4, q1, q2]; simp
        clear hM
        go_wp2
        go_ret
        exact ⟨ret_same HR.out.symm, hbl.out⟩
      · intro q1 q2 q3
        have HR : Hid (r = false) := by show _ = _; rw [HE.out, p1, p2, p3, p4, q1, q2, q3]; simp
        clear hM
        go_wp2
        go_ret
        exact ⟨ret_same HR.out.symm, hbl.out⟩
      · intro q1 q2 q3 q4
        have HR : Hid (r = false) := by show _ = _; rw [HE.out, p1, p2, p3, p4, q1, q2, q3, q4]; simp
        clear hM
        go_wp2
        go_ret
        exact ⟨ret_same HR.out.symm, hbl.out⟩
      · intro q1 q2 q3 q4
        have HR : Hid (r = false) := by show _ = _; rw [HE.out, p1, p2, p3, p4, q1, q2, q3, q4]; simp
        clear hM
        go_wp2
        go_ret
        exact ⟨ret_same HR.out.symm, hbl.out⟩
    · intro p1 p2 p3 p4
      refine four (X.c.1 ≤ h.p) (h.p ≤ X.c.2) (X.d.1 ≤ h.q) (h.q ≤ X.d.2) ?_ ?_ ?_ ?_ ?_
      · intro q1
        have HR : Hid (r = false) := by show _ = _; rw [HE.out, p1, p2, p3, p4, q1]; simp
        clear hM
        go_wp2
        go_ret
        exact ⟨ret_same HR.out.symm, hbl.out⟩
      · intro q1 q2
        have HR : Hid (r = false) := by show _ = _; rw [HE.out, p1, p2, p3, p4, q1, q2]; simp
        clear hM
        go_wp2
        go_ret
        exact ⟨ret_same HR.out.symm, hbl.out⟩
      · intro q1 q2 q3
        have HR : Hid (r = false) := by show _ = _; rw [HE.out, p1, p2, p3, p4, q1, q2, q3]; simp
        clear hM
        go_wp2
        go_ret
        exact ⟨ret_same HR.out.symm, hbl.out⟩
      · intro q1 q2 q3 q4
        have HR : Hid (r = false) := by show _ = _; rw [HE.out, p1, p2, p3, p4, q1, q2, q3, q4]; simp
        clear hM
        go_wp2
        go_ret
        exact ⟨ret_same HR.out.symm, hbl.out⟩
      · intro q1 q2 q3 q4
        have HR : Hid (r = m) := by show _ = _; rw [HE.out, p1, p2, p3, p4, q1, q2, q3, q4]; simp
        go_wp2_with (fail)
        refine (hM _).mono ?_
        rintro e w2 ⟨rfl, hb2⟩
        go_wp2
        go_ret
        exact ⟨ret_same HR.out.symm, hbl.out.trans (hb2.mono hbl.out.size)⟩
end Go.Proofs.Ythggiblkehcfaaa
