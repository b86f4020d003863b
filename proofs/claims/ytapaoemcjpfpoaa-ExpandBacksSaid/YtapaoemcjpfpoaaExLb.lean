/-
  The law ExpandBacks, out of what the functions of expand hand back.
-/
import Derived.Test.YtapaoemcjpfpoaaExAw
import Derived.Test.YtapaoemcjpfpoaaExMe
namespace Go.Proofs.Ytapaoemcjpfpoaa
open Go.RowKit
set_option linter.unusedVariables false
set_option linter.unusedSimpArgs false

theorem row_apartX {w : World} {b g : Nat} {v : Value} {l : List (Nat × Nat)} (h : Row w b v l) (hg : g < b ∨ w.heap.size ≤ g) : v.ownBlock = none ∨ v.ownBlock ≠ some g := by
  cases e : v.ownBlock with
  | none => exact .inl rfl
  | some k =>
    right
    intro e2
    have h1 := h.lt k e
    have := Option.some.inj e2
    omega
theorem expandBacks_long (l : List (Nat × Int)) (v : Value) (w : World) (hs : SrcT w v l) (hlong : 1048576 < l.length) :
    Calls Try.prog 5 #[v] w fun e w' => e = .returned (.bool true) ∧ Below w.heap.size w w' := by
  obtain ⟨ad, cap, rfl, _⟩ := hs
  have hl' : (1048576 : Int) < (l.length : Int) := by omega
  go_enter Try.func5, Try.ntmps5
  go_wp2
  go_ret
  exact ⟨rfl, Below.refl _ _⟩
set_option maxHeartbeats 2000000 in
theorem expandBacks_any (l : List (Nat × Int)) (v : Value) (C : List (Nat × Nat)) (er : Int) (hC : C.length ≤ 65536) (hll : l.length ≤ 1048576)
    (c1 : ∀ W, SrcT W v l → Calls Try.prog 21 #[v] W fun e w' => ∃ v' : Value, e = .returned (.tuple #[v', .int .i64 er]) ∧ Row w' W.heap.size v' C ∧ Below W.heap.size W w')
    (c3 : ∀ u W, SrcT W u l → Calls Try.prog 23 #[u] W fun e w' => ∃ v' : Value, e = .returned (.tuple #[v', .int .i64 er]) ∧ Row w' W.heap.size v' C ∧ Below W.heap.size W w')
    (ca : ∀ W, Calls Try.prog 11 #[] W fun e w' => e = .returned (.bool true) ∧ Below W.heap.size W w') (w : World) (hs : SrcT w v l) :
    Calls Try.prog 5 #[v] w fun e w' => e = .returned (.bool true) ∧ Below w.heap.size w w' := by
  have hl' : ¬ (1048576 : Int) < (l.length : Int) := by omega
  have c2 := fun W (h : SrcT W v l) => lentT l v W h hll
  have HS : Hid (SrcT w v l) := hs
  obtain ⟨ad, cap, rfl, _⟩ := hs
  go_enter Try.func5, Try.ntmps5
  go_wp2_with (fail)
  refine (c1 _ HS.out).mono ?_
  rintro e w1 ⟨v1, rfl, r1, hb1⟩
  have R1 : Hid (Row w1 w.heap.size v1 C) := r1
  have B1 : Hid (Below w.heap.size w w1) := hb1
  clear r1 hb1
  go_wp2_with (fail)
  refine (c2 _ (HS.out.keep B1.out)).mono ?_
  rintro e w2 ⟨g, rfl, hg1, hg2, r2, hb2⟩
  have R2 : Hid (RowI w2 w1.heap.size (.slice (some ⟨g, 0, none⟩) (l.length + 2) (l.length + 2)) (l ++ [(7, 77), (8, 77)])) := r2
  have R12 : Hid (Row w2 w.heap.size v1 C) := R1.out.on hb2
  have B2 : Hid (Below w.heap.size w w2) := B1.out.trans (hb2.mono B1.out.size)
  clear r2 hb2
  go_wp2_with (fail)
  refine (c3 _ _ (R2.out.head rfl _)).mono ?_
  rintro e w3 ⟨v3, rfl, r3, hb3⟩
  have R3 : Hid (Row w3 w2.heap.size v3 C) := r3
  have R23 : Hid (RowI w3 w1.heap.size (.slice (some ⟨g, 0, none⟩) (l.length + 2) (l.length + 2)) (l ++ [(7, 77), (8, 77)])) := R2.out.on hb3
  have R13 : Hid (Row w3 w.heap.size v1 C) := R12.out.on hb3
  have B3 : Hid (Below w.heap.size w w3) := B2.out.trans (hb3.mono B2.out.size)
  clear r3 hb3 R12 R2
  go_wp2_with (fail)
  refine (backT l _ g _ _ R23.out (HS.out.keep B3.out) hll).mono ?_
  rintro e w5 ⟨rfl, hg5⟩
  have hz1 := B1.out.size
  have R35 : Hid (Row w5 w2.heap.size v3 C) := World.ownsRow.kept R3.out hg5 (row_apartX R3.out (.inl hg2))
  have R15 : Hid (Row w5 w.heap.size v1 C) := World.ownsRow.kept R13.out hg5 (row_apartX R1.out (.inr hg1))
  have B5 : Hid (Below w.heap.size w w5) := B3.out.grown hg5 B3.out.size (fun k hk => by have := Option.some.inj hk; omega)
  clear hg5 R3 R13 R23
  go_wp2_with (fail)
  refine (ca _).mono ?_
  rintro e w6 ⟨rfl, hb6⟩
  have B6 : Hid (Below w.heap.size w w6) := B5.out.trans (hb6.mono B5.out.size)
  have S1 : Hid (Src w6 v3 C) := (R35.out.on hb6).src
  have S2 : Hid (Src w6 v1 C) := (R15.out.on hb6).src
  clear hb6
  go_wp2_with (fail)
  refine (sameX C (by omega) _ _ _ S1.out S2.out).mono ?_
  rintro e w8 ⟨rfl, hb8⟩
  have B8 : Hid (Below w.heap.size w w8) := B6.out.trans (hb8.mono B6.out.size)
  go_wp2
  go_ret
  exact ⟨rfl, B8.out⟩
theorem expandBacks_core (hN : BackN) (hC : BackC)
    (ca : ∀ W, Calls Try.prog 11 #[] W fun e w' => e = .returned (.bool true) ∧ Below W.heap.size W w') (l : List (Nat × Int)) (v : Value) (hbd : BdT l) (w : World) (hs : SrcT w v l) :
    Calls Try.prog 5 #[v] w fun e w' => e = .returned (.bool true) ∧ Below w.heap.size w w' := by
  by_cases hlong : 1048576 < l.length
  · exact expandBacks_long l v w hs hlong
  have hll : l.length ≤ 1048576 := by omega
  cases ho : okT l
  · exact expandBacks_any l v [] 50 (by decide) hll (fun W h => (rback_no l v W h (by omega) hbd ho).mono fun e w' h => ⟨_, h.1, Row.nil _ _, h.2⟩) (fun u W h => hN l u W h hll hbd ho) ca w hs
  · exact expandBacks_any l v _ 0 (length_canonOf _) hll (fun W h => rback_ok l v W h (by omega) hbd ho) (fun u W h => hC l u W h hll hbd ho) ca w hs
end Go.Proofs.Ytapaoemcjpfpoaa
