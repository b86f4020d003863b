/-
  The law ExpandLeasts, out of what the functions of expand hand back.
-/
import Derived.Test.YtapaoemcjpfpoaaExAw
import Derived.Test.YtapaoemcjpfpoaaExMe
namespace Go.Proofs.Ytapaoemcjpfpoaa
open Go.RowKit
set_option linter.unusedVariables false
set_option linter.unusedSimpArgs false

theorem rowT_ne {w w' : World} {b b' : Nat} {v v' : Value} {l l' : List (Nat × Nat)} (h : RowT w b v l) (h' : RowT w' b' v' l') (hb : w.heap.size ≤ b') : v.ownBlock = none ∨ v.ownBlock ≠ v'.ownBlock := by
  cases e : v.ownBlock with
  | none => exact .inl rfl
  | some k =>
    right
    intro e2
    have h1 := (h'.lt k e2.symm).1
    have h2 := (h.lt k e).2
    omega
theorem rowT_apart {w : World} {b g : Nat} {v : Value} {l : List (Nat × Nat)} (h : RowT w b v l) (hg : g < b ∨ w.heap.size ≤ g) : v.ownBlock = none ∨ v.ownBlock ≠ some g := by
  cases e : v.ownBlock with
  | none => exact .inl rfl
  | some k =>
    right
    intro e2
    have h1 := h.lt k e
    have := Option.some.inj e2
    omega
theorem tl_len16 (p : Nat → Bool) : (tl p 16 0).length ≤ 65536 := tl_len p 16 0
theorem expandLeasts_long (l : List (Nat × Int)) (v : Value) (w : World) (hs : SrcT w v l) (hlong : 1048576 < l.length) :
    Calls Try.prog 6 #[v] w fun e w' => e = .returned (.bool true) ∧ Below w.heap.size w w' := by
  obtain ⟨ad, cap, rfl, _⟩ := hs
  have hl' : (1048576 : Int) < (l.length : Int) := by omega
  go_enter Try.func6, Try.ntmps6
  go_wp2
  go_ret
  exact ⟨rfl, Below.refl _ _⟩
set_option maxHeartbeats 2000000 in
theorem expandLeasts_any (l : List (Nat × Int)) (v : Value) (C : List (Nat × Nat)) (er : Int) (hC : C.length ≤ 65536) (hll : l.length ≤ 1048576)
    (c1 : ∀ W, SrcT W v l → Calls Try.prog 26 #[v] W fun e w' => ∃ v' : Value, e = .returned (.tuple #[v', .int .i64 er]) ∧ RowT w' W.heap.size v' C ∧ Below W.heap.size W w')
    (c3 : ∀ u W, SrcT W u l → Calls Try.prog 27 #[u] W fun e w' => ∃ v' : Value, e = .returned (.tuple #[v', .int .i64 er]) ∧ RowT w' W.heap.size v' C ∧ Below W.heap.size W w')
    (ca : ∀ W, Calls Try.prog 11 #[] W fun e w' => e = .returned (.bool true) ∧ Below W.heap.size W w') (w : World) (hs : SrcT w v l) :
    Calls Try.prog 6 #[v] w fun e w' => e = .returned (.bool true) ∧ Below w.heap.size w w' := by
  have hl' : ¬ (1048576 : Int) < (l.length : Int) := by omega
  have c2 := fun W (h : SrcT W v l) => lentT l v W h hll
  have HS : Hid (SrcT w v l) := hs
  obtain ⟨ad, cap, rfl, _⟩ := hs
  go_enter Try.func6, Try.ntmps6
  go_wp2_with (fail)
  refine (c1 _ HS.out).mono ?_
  rintro e w1 ⟨v1, rfl, r1, hb1⟩
  have R1 : Hid (RowT w1 w.heap.size v1 C) := r1
  have B1 : Hid (Below w.heap.size w w1) := hb1
  clear r1 hb1
  go_wp2_with (fail)
  refine (c2 _ (HS.out.keep B1.out)).mono ?_
  rintro e w2 ⟨g, rfl, hg1, hg2, r2, hb2⟩
  have R2 : Hid (RowI w2 w1.heap.size (.slice (some ⟨g, 0, none⟩) (l.length + 2) (l.length + 2)) (l ++ [(7, 77), (8, 77)])) := r2
  have R12 : Hid (RowT w2 w.heap.size v1 C) := R1.out.on hb2
  have B2 : Hid (Below w.heap.size w w2) := B1.out.trans (hb2.mono B1.out.size)
  clear r2 hb2
  go_wp2_with (fail)
  refine (c3 _ _ (R2.out.head rfl _)).mono ?_
  rintro e w3 ⟨v3, rfl, r3, hb3⟩
  have R3 : Hid (RowT w3 w2.heap.size v3 C) := r3
  have R23 : Hid (RowI w3 w1.heap.size (.slice (some ⟨g, 0, none⟩) (l.length + 2) (l.length + 2)) (l ++ [(7, 77), (8, 77)])) := R2.out.on hb3
  have R13 : Hid (RowT w3 w.heap.size v1 C) := R12.out.on hb3
  have B3 : Hid (Below w.heap.size w w3) := B2.out.trans (hb3.mono B2.out.size)
  clear r3 hb3 R12 R2
  go_wp2_with (fail)
  refine (backT l _ g _ _ R23.out (HS.out.keep B3.out) hll).mono ?_
  rintro e w5 ⟨rfl, hg5⟩
  have hz1 := B1.out.size
  have R35 : Hid (RowT w5 w2.heap.size v3 C) := World.ownsRow.kept R3.out hg5 (rowT_apart R3.out (.inl hg2))
  have R15 : Hid (RowT w5 w.heap.size v1 C) := World.ownsRow.kept R13.out hg5 (rowT_apart R1.out (.inr hg1))
  have B5 : Hid (Below w.heap.size w w5) := B3.out.grown hg5 B3.out.size (fun k hk => by have := Option.some.inj hk; omega)
  clear hg5 R3 R13 R23
  go_wp2_with (fail)
  refine (sameT (castT C) (by rw [castT_length]; omega) _ _ _ R35.out.src R15.out.src).mono ?_
  rintro e w6 ⟨rfl, hb6⟩
  have R36 : Hid (RowT w6 w2.heap.size v3 C) := R35.out.on hb6
  have R16 : Hid (RowT w6 w.heap.size v1 C) := R15.out.on hb6
  have B6 : Hid (Below w.heap.size w w6) := B5.out.trans (hb6.mono B5.out.size)
  clear hb6 R35 R15
  go_wp2_with (fail)
  refine (spoilT C v3 _ _ R36.out).mono ?_
  rintro e w7 ⟨rfl, hg7⟩
  have R17 : Hid (RowT w7 w.heap.size v1 C) := World.ownsRow.kept R16.out hg7 (rowT_ne R1.out R36.out (by omega))
  have B7 : Hid (Below w.heap.size w w7) := B6.out.grown hg7 B6.out.size (fun k hk => by have := (R36.out.lt k hk).1; have := B2.out.size; omega)
  clear hg7 R16 R36
  go_wp2_with (fail)
  refine (c3 _ _ (HS.out.keep B7.out)).mono ?_
  rintro e w8 ⟨v8, rfl, r8, hb8⟩
  have R8 : Hid (RowT w8 w7.heap.size v8 C) := r8
  have R18 : Hid (RowT w8 w.heap.size v1 C) := R17.out.on hb8
  have B8 : Hid (Below w.heap.size w w8) := B7.out.trans (hb8.mono B7.out.size)
  clear r8 hb8 R17
  go_wp2_with (fail)
  refine (ca _).mono ?_
  rintro e w9 ⟨rfl, hb9⟩
  have B9 : Hid (Below w.heap.size w w9) := B8.out.trans (hb9.mono B8.out.size)
  have S1 : Hid (SrcT w9 v8 (castT C)) := (R8.out.on hb9).src
  have S2 : Hid (SrcT w9 v1 (castT C)) := (R18.out.on hb9).src
  clear hb9
  go_wp2_with (fail)
  refine (sameT (castT C) (by rw [castT_length]; omega) _ _ _ S1.out S2.out).mono ?_
  rintro e w10 ⟨rfl, hb10⟩
  have B10 : Hid (Below w.heap.size w w10) := B9.out.trans (hb10.mono B9.out.size)
  go_wp2
  go_ret
  exact ⟨rfl, B10.out⟩
theorem expandLeasts_core (hN : LstN) (hC : LstC)
    (ca : ∀ W, Calls Try.prog 11 #[] W fun e w' => e = .returned (.bool true) ∧ Below W.heap.size W w') (l : List (Nat × Int)) (v : Value) (hbd : BdT l) (w : World) (hs : SrcT w v l) :
    Calls Try.prog 6 #[v] w fun e w' => e = .returned (.bool true) ∧ Below w.heap.size w w' := by
  by_cases hlong : 1048576 < l.length
  · exact expandLeasts_long l v w hs hlong
  have hll : l.length ≤ 1048576 := by omega
  cases ho : okT l
  · exact expandLeasts_any l v [] 50 (by decide) hll (fun W h => (rleast_no l v W h (by omega) hbd ho).mono fun e w' h => ⟨_, h.1, RowT.nil _ _, h.2⟩) (fun u W h => hN l u W h hll hbd ho) ca w hs
  · exact expandLeasts_any l v _ 0 (tl_len16 _) hll (fun W h => rleast_ok l v W h (by omega) hbd ho) (fun u W h => hC l u W h hll hbd ho) ca w hs
end Go.Proofs.Ytapaoemcjpfpoaa
