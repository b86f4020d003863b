/-
  The law ExpandOf, out of what the functions of expand hand back.
-/
import Derived.Test.YtapaoemcjpfpoaaExAw
import Derived.Test.YtapaoemcjpfpoaaExMe
namespace Go.Proofs.Ytapaoemcjpfpoaa
open Go.RowKit
set_option linter.unusedVariables false
set_option linter.unusedSimpArgs false

theorem rowT_ne {w w' : World} {b b' : Nat} {v v' : Value} {l l' : List (Nat × Nat)} (h : RowT w b v l) (h' : RowT w' b' v' l') (hb : w.heap.size ≤ b') : v.ownBlock = none ∨ v.ownBlock ≠ v'.ownBlock := by
  cases e : v.ownBlock with
  | none => exact .inl rfl
  | some k =>
    right
    intro e2
    have h1 := (h'.lt k e2.symm).1
    have h2 := (h.lt k e).2
    omega
theorem rowT_apart {w : World} {b g : Nat} {v : Value} {l : List (Nat × Nat)} (h : RowT w b v l) (hg : g < b ∨ w.heap.size ≤ g) : v.ownBlock = none ∨ v.ownBlock ≠ some g := by
  cases e : v.ownBlock with
  | none => exact .inl rfl
  | some k =>
    right
    intro e2
    have h1 := h.lt k e
    have := Option.some.inj e2
    omega
theorem tl_len16 (p : Nat → Bool) : (tl p 16 0).length ≤ 65536 := tl_len p 16 0
set_option maxHeartbeats 2000000 in
theorem expandOf_any (lo hi : Nat) (L : List (Nat × Nat)) (er : Int) (hL : L.length ≤ 65536)
    (c1 : ∀ W, Calls Try.prog 16 #[.agg #[.int .u16 lo, .int .u16 hi]] W fun e w' => ∃ v' : Value, e = .returned (.tuple #[v', .int .i64 er]) ∧ RowT w' W.heap.size v' L ∧ Below W.heap.size W w')
    (c2 : ∀ W, Calls Try.prog 17 #[.agg #[.int .u16 lo, .int .u16 hi]] W fun e w' => e = .returned (.tuple #[.int .i64 ((L.length : Nat) : Int), .int .i64 er]) ∧ Below W.heap.size W w')
    (c3 : ∀ W, Calls Try.prog 18 #[.agg #[.int .u16 lo, .int .u16 hi]] W fun e w' => ∃ v' : Value, e = .returned (.tuple #[v', .int .i64 er]) ∧ RowT w' W.heap.size v' L ∧ Below W.heap.size W w')
    (ca : ∀ W, Calls Try.prog 11 #[] W fun e w' => e = .returned (.bool true) ∧ Below W.heap.size W w') (w : World) :
    Calls Try.prog 4 #[.agg #[.int .u16 lo, .int .u16 hi]] w fun e w' => e = .returned (.bool true) ∧ Below w.heap.size w w' := by
  go_enter Try.func4, Try.ntmps4
  go_wp2_with (fail)
  refine (c1 _).mono ?_
  rintro e w1 ⟨v1, rfl, r1, hb1⟩
  have a0 : w1.cell? ⟨w.heap.size, 0, none⟩ = some (.int .u16 lo) := cell_on1 hb1 (by simp [go_sem])
  have a1 : w1.cell? ⟨w.heap.size, 1, none⟩ = some (.int .u16 hi) := cell_on1 hb1 (by simp [go_sem])
  have hz1 := hb1.size
  simp at hz1
  have R1 : Hid (RowT w1 (w.heap.size + 1) v1 L) := by show RowT _ _ _ _; simpa using r1
  have B1 : Hid (Below w.heap.size w w1) := ((Below.refl _ _).alloc (Nat.le_refl _) _).trans (hb1.mono (by simp))
  obtain ⟨ad1, cap1, rfl, _⟩ := R1.out.form
  clear r1 hb1 c1
  go_wp2_with (fail)
  refine (c2 _).mono ?_
  rintro e w2 ⟨rfl, hb2⟩
  have b0 := cell_on1 hb2 a0
  have b1 := cell_on1 hb2 a1
  have R12 : Hid (RowT w2 (w.heap.size + 1) (.slice ad1 L.length cap1) L) := R1.out.on hb2
  have B2 : Hid (Below w.heap.size w w2) := B1.out.trans (hb2.mono B1.out.size)
  have hz2 := hb2.size
  clear hb2 c2 a0 a1
  go_wp2_with (fail)
  refine (c3 _).mono ?_
  rintro e w3 ⟨v3, rfl, r3, hb3⟩
  have a0 := cell_on1 hb3 b0
  have a1 := cell_on1 hb3 b1
  have R3 : Hid (RowT w3 w2.heap.size v3 L) := r3
  have R13 : Hid (RowT w3 (w.heap.size + 1) (.slice ad1 L.length cap1) L) := R12.out.on hb3
  have B3 : Hid (Below w.heap.size w w3) := B2.out.trans (hb3.mono B2.out.size)
  have hz3 := hb3.size
  clear r3 hb3 b0 b1
  go_wp2_with (fail)
  refine (sameT (castT L) (by rw [castT_length]; omega) _ _ _ R3.out.src R13.out.src).mono ?_
  rintro e w4 ⟨rfl, hb4⟩
  have b0 := cell_on1 hb4 a0
  have b1 := cell_on1 hb4 a1
  have R34 : Hid (RowT w4 w2.heap.size v3 L) := R3.out.on hb4
  have R14 : Hid (RowT w4 (w.heap.size + 1) (.slice ad1 L.length cap1) L) := R13.out.on hb4
  have B4 : Hid (Below w.heap.size w w4) := B3.out.trans (hb4.mono B3.out.size)
  have hz4 := hb4.size
  clear hb4 a0 a1 R13
  go_wp2_with (fail)
  refine (spoilT L v3 _ _ R34.out).mono ?_
  rintro e w5 ⟨rfl, hg5⟩
  have hv3 : ∀ k, v3.ownBlock = some k → w2.heap.size ≤ k := fun k hk => (R34.out.lt k hk).1
  have a0 : w5.cell? ⟨w.heap.size, 0, none⟩ = some (.int .u16 lo) := World.grownBy.cell hg5 b0 (by intro e; have : w2.heap.size ≤ w.heap.size := hv3 _ e.symm; omega)
  have a1 : w5.cell? ⟨w.heap.size, 1, none⟩ = some (.int .u16 hi) := World.grownBy.cell hg5 b1 (by intro e; have : w2.heap.size ≤ w.heap.size := hv3 _ e.symm; omega)
  have R15 : Hid (RowT w5 (w.heap.size + 1) (.slice ad1 L.length cap1) L) := World.ownsRow.kept R14.out hg5 (rowT_ne R1.out R34.out (by omega))
  have B5 : Hid (Below w.heap.size w w5) := B4.out.grown hg5 B4.out.size (fun k hk => by have := hv3 k hk; omega)
  have hz5 := hg5.size
  clear hg5 hv3 R34 R14 R3 b0 b1
  go_wp2_with (fail)
  refine (c3 _).mono ?_
  rintro e w6 ⟨v6, rfl, r6, hb6⟩
  have R6 : Hid (RowT w6 w5.heap.size v6 L) := r6
  have R16 : Hid (RowT w6 (w.heap.size + 1) (.slice ad1 L.length cap1) L) := R15.out.on hb6
  have B6 : Hid (Below w.heap.size w w6) := B5.out.trans (hb6.mono B5.out.size)
  clear r6 hb6 a0 a1
  go_wp2_with (fail)
  refine (ca _).mono ?_
  rintro e w7 ⟨rfl, hb7⟩
  have B7 : Hid (Below w.heap.size w w7) := B6.out.trans (hb7.mono B6.out.size)
  have S1 : Hid (SrcT w7 v6 (castT L)) := (R6.out.on hb7).src
  have S2 : Hid (SrcT w7 (.slice ad1 L.length cap1) (castT L)) := (R16.out.on hb7).src
  clear hb7
  go_wp2_with (fail)
  refine (sameT (castT L) (by rw [castT_length]; omega) _ _ _ S1.out S2.out).mono ?_
  rintro e w8 ⟨rfl, hb8⟩
  have B8 : Hid (Below w.heap.size w w8) := B7.out.trans (hb8.mono B7.out.size)
  go_wp2
  go_ret
  exact ⟨rfl, B8.out⟩
theorem expandOf_core (hOfN : OfN) (hOf : OfC) (hCntN : CntN) (hCnt : CntC)
    (ca : ∀ W, Calls Try.prog 11 #[] W fun e w' => e = .returned (.bool true) ∧ Below W.heap.size W w') (lo hi : Nat) (hlo : lo < 65536) (hhi : hi < 65536) (w : World) :
    Calls Try.prog 4 #[.agg #[.int .u16 lo, .int .u16 hi]] w fun e w' => e = .returned (.bool true) ∧ Below w.heap.size w w' := by
  by_cases h : lo ≤ hi
  · exact expandOf_any lo hi _ 0 (tl_len16 _) (fun W => rof_ok lo hi W h hhi) (fun W => hCnt lo hi W h hhi) (fun W => hOf lo hi W h hhi) ca w
  · exact expandOf_any lo hi [] 30 (by decide) (fun W => (rof_no lo hi W (by omega)).mono fun e w' h => ⟨_, h.1, RowT.nil _ _, h.2⟩) (fun W => hCntN lo hi W hlo (by omega)) (fun W => hOfN lo hi W hlo (by omega)) ca w
end Go.Proofs.Ytapaoemcjpfpoaa
