/-
  For every list of spans, span.Gaps tells the spans of the document and leaves the list as it was; what is told is its caller's own; the examples of the document hold.
  Conditions: none; the law holds for every input.
-/
import Derived.Test.YthmekipdhlipbabSpLn
import Derived.Test.YthmekipdhlipbabSpRg
import Derived.Test.YthmekipdhlipbabSpFrame
namespace Go.Proofs.Ythmekipdhlipbab
open Go.ChangeShapes Go.WideShapes Go.ChangeAt Go.RowKit Go.Joins
set_option linter.unusedVariables false
set_option linter.unusedSimpArgs false

theorem row_ne {w w' : World} {b b' : Nat} {v v' : Value} {l l' : List (Nat × Nat)} (h : Row w b v l) (h' : Row w' b' v' l') (hb : w.heap.size ≤ b') : v.ownBlock = none ∨ v.ownBlock ≠ v'.ownBlock := by
  cases e : v.ownBlock with
  | none => exact .inl rfl
  | some k =>
    right
    intro e2
    have h1 := (h'.lt k e2.symm).1
    have h2 := (h.lt k e).2
    omega
theorem row_apart {w : World} {b g : Nat} {v : Value} {l : List (Nat × Nat)} (h : Row w b v l) (hg : g < b ∨ w.heap.size ≤ g) : v.ownBlock = none ∨ v.ownBlock ≠ some g := by
  cases e : v.ownBlock with
  | none => exact .inl rfl
  | some k =>
    right
    intro e2
    have h1 := h.lt k e
    have := Option.some.inj e2
    omega
set_option maxHeartbeats 400000 in
theorem spanGaps_long (l : List (Nat × Nat)) (v : Value) (w : World) (hs : Src w v l) (hlong : 1048576 < l.length) :
    Calls Try.prog 3 #[v] w fun e w' => e = .returned (.bool true) ∧ Below w.heap.size w w' := by
  obtain ⟨ad, cap, rfl, _⟩ := hs
  have hl' : (1048576 : Int) < (l.length : Int) := by omega
  go_enter Try.func3, Try.ntmps3
  go_wp2
  go_ret
  exact ⟨rfl, Below.refl _ _⟩
set_option maxHeartbeats 1000000 in
theorem spanGaps_walk (l : List (Nat × Nat)) (v : Value) (hbd : Bd l) (w : World) (hs : Src w v l) :
    Calls Try.prog 3 #[v] w fun e w' => e = .returned (.bool true) ∧ Below w.heap.size w w' := by
  by_cases hlong : 1048576 < l.length
  · exact spanGaps_long l v w hs hlong
  have hll : l.length ≤ 1048576 := by omega
  have hl' : ¬ (1048576 : Int) < (l.length : Int) := by omega
  have hlen : (canonOf fun i => !memB l i).length ≤ 65536 := length_canonOf _
  have c1 := fun W (h : Src W v l) => rgapsS l v W h (by omega) hbd
  have c2 := fun W (h : Src W v l) => lentS l v W h hll
  have c3 := fun u W (h : Src W u l) => gapsS l u W h (by omega) hbd
  generalize (canonOf fun i => !memB l i) = C at c1 c3 hlen
  have HS : Hid (Src w v l) := hs
  obtain ⟨ad, cap, rfl, _⟩ := hs
  clear hlong
  go_enter Try.func3, Try.ntmps3
  go_wp2_with (fail)
  refine (c1 _ HS.out).mono ?_
  rintro e w1 ⟨v1, rfl, r1, hb1⟩
  have R1 : Hid (Row w1 w.heap.size v1 C) := r1
  have B1 : Hid (Below w.heap.size w w1) := hb1
  clear r1 hb1
  go_wp2_with (fail)
  refine (c2 _ (HS.out.keep B1.out)).mono ?_
  rintro e w2 ⟨g, rfl, hg1, hg2, r2, hb2⟩
  have R2 : Hid (Row w2 w1.heap.size (.slice (some ⟨g, 0, none⟩) (l.length + 2) (l.length + 2)) (l ++ [(7, 3), (8, 3)])) := r2
  have R12 : Hid (Row w2 w.heap.size v1 C) := R1.out.on hb2
  have B2 : Hid (Below w.heap.size w w2) := B1.out.trans (hb2.mono B1.out.size)
  clear r2 hb2
  go_wp2_with (fail)
  refine (c3 _ _ (R2.out.head rfl _)).mono ?_
  rintro e w3 ⟨v3, rfl, r3, hb3⟩
  have R3 : Hid (Row w3 w2.heap.size v3 C) := r3
  have R23 : Hid (Row w3 w1.heap.size (.slice (some ⟨g, 0, none⟩) (l.length + 2) (l.length + 2)) (l ++ [(7, 3), (8, 3)])) := R2.out.on hb3
  have R13 : Hid (Row w3 w.heap.size v1 C) := R12.out.on hb3
  have B3 : Hid (Below w.heap.size w w3) := B2.out.trans (hb3.mono B2.out.size)
  clear r3 hb3 R12 R2
  go_wp2_with (fail)
  refine (sameS C (by omega) _ _ _ R3.out.src R13.out.src).mono ?_
  rintro e w4 ⟨rfl, hb4⟩
  have R34 : Hid (Row w4 w2.heap.size v3 C) := R3.out.on hb4
  have R24 : Hid (Row w4 w1.heap.size (.slice (some ⟨g, 0, none⟩) (l.length + 2) (l.length + 2)) (l ++ [(7, 3), (8, 3)])) := R23.out.on hb4
  have R14 : Hid (Row w4 w.heap.size v1 C) := R13.out.on hb4
  have B4 : Hid (Below w.heap.size w w4) := B3.out.trans (hb4.mono B3.out.size)
  clear hb4 R13 R23
  go_wp2_with (fail)
  refine (backS l _ g _ _ R24.out (HS.out.keep B4.out) hll).mono ?_
  rintro e w5 ⟨rfl, hg5⟩
  have hz1 := B1.out.size
  have R35 : Hid (Row w5 w2.heap.size v3 C) := World.ownsRow.kept R34.out hg5 (row_apart R34.out (.inl hg2))
  have R15 : Hid (Row w5 w.heap.size v1 C) := World.ownsRow.kept R14.out hg5 (row_apart R1.out (.inr hg1))
  have B5 : Hid (Below w.heap.size w w5) := B4.out.grown hg5 B4.out.size (fun k hk => by have := Option.some.inj hk; omega)
  clear hg5 R34 R14 R24
  go_wp2_with (fail)
  refine (sameS C (by omega) _ _ _ R35.out.src R15.out.src).mono ?_
  rintro e w6 ⟨rfl, hb6⟩
  have R36 : Hid (Row w6 w2.heap.size v3 C) := R35.out.on hb6
  have R16 : Hid (Row w6 w.heap.size v1 C) := R15.out.on hb6
  have B6 : Hid (Below w.heap.size w w6) := B5.out.trans (hb6.mono B5.out.size)
  clear hb6 R35 R15
  go_wp2_with (fail)
  refine (spoilS C v3 _ _ R36.out).mono ?_
  rintro e w7 ⟨rfl, hg7⟩
  have R17 : Hid (Row w7 w.heap.size v1 C) := World.ownsRow.kept R16.out hg7 (row_ne R1.out R36.out (by omega))
  have B7 : Hid (Below w.heap.size w w7) := B6.out.grown hg7 B6.out.size (fun k hk => by have := (R36.out.lt k hk).1; have := B2.out.size; omega)
  clear hg7 R16 R36 R3
  go_wp2_with (fail)
  refine (c3 _ _ (HS.out.keep B7.out)).mono ?_
  rintro e w8 ⟨v8, rfl, r8, hb8⟩
  have R8 : Hid (Row w8 w7.heap.size v8 C) := r8
  have R18 : Hid (Row w8 w.heap.size v1 C) := R17.out.on hb8
  have B8 : Hid (Below w.heap.size w w8) := B7.out.trans (hb8.mono B7.out.size)
  clear r8 hb8 R17
  go_wp2_with (fail)
  refine (awakeS _).mono ?_
  rintro e w9 ⟨rfl, hb9⟩
  have B9 : Hid (Below w.heap.size w w9) := B8.out.trans (hb9.mono B8.out.size)
  go_wp2_with (fail)
  refine (sameS C (by omega) _ _ _ (R8.out.on hb9).src (R18.out.on hb9).src).mono ?_
  rintro e w10 ⟨rfl, hb10⟩
  have B10 : Hid (Below w.heap.size w w10) := B9.out.trans (hb10.mono B9.out.size)
  go_wp2
  go_ret
  exact ⟨rfl, B10.out⟩

set_option maxRecDepth 100000 in
theorem spanGaps_lifted (os : Os) (started : os.Started) (H : Type) (enc : TypeId × Value → H) :
    ReturnsInHanded {} Try.checked os 3 .any (Rows.spanGapsSpec.pre6 enc Try.prog Try.f3 Rows.spanGapsRow.domain false) (Rows.spanGapsSpec.post enc Try.prog Try.f3 false true false false) := by
  refine returnsInHanded_of_change (C := Try.checked) own started (by kernel_rfl) Try.func3
    (ChangeSpec.witness6 (enc := enc) (C := Try.checked) false ⟨#[], #[.slice none 0 0], []⟩ 8 (by kernel_rfl) (by kernel_rfl) (by kernel_rfl) (by kernel_rfl)) ?_
  intro W base args ds gs before hval0 hW hcnd _
  have hval : ∀ (j : Nat) t v, Try.f3.params[j]? = some t → args[j]? = some v → Value.okWide Try.prog W .any base t v := hval0
  have hW' := hW
  obtain ⟨p, q, hA0, hV, rfl, hfz, hnd⟩ := hW
  have hA : DataW.TrodAll enc Try.prog W 0 (fun _ => true) true Try.f3.params.toList args.toList ds p := hA0
  rw [Try.params3] at hA hval
  obtain ⟨v0, vs0, d0, ds0, p0, q0, hargs, rfl, rfl, h0, r0⟩ := trodAll_cons hA
  obtain ⟨rfl, rfl, rfl⟩ := trodAll_nil r0
  obtain rfl : args = #[v0] := by cases args; simp_all
  obtain ⟨rfl, rfl⟩ := trodVars_none hV
  have hlt0 : ∀ x ∈ p0, x.block < W.heap.size := fun x hx => by simpa using hW'.lt x (by simp [hx])
  obtain ⟨l0, s0, bd0⟩ := open_sps (hval 0 22 v0 rfl rfl) h0
  clear hA0 hval0
  simp only [List.append_nil] at hW'
  refine (spanGaps_walk l0 v0 bd0 W s0).mono fun e W' ⟨he, bel⟩ => ?_
  subst he
  exact ⟨_, rfl, _, _, _, [], _, [], hW', trodAll_mk1 (shut_bool Try.underlying4 _), (trodAll_cons_mk (Below.trod laidOut (by kernel_rfl) (of_decide_eq_true (by kernel_rfl)) h0 bel hlt0) trodAll_mk0), rfl, bel.frame _, fun h => by cases h⟩

/-- The given statement. -/
theorem spanGaps_holds : Rows.SpanGapsSaid :=
  OpenClaim.holds_of_wide 3 Try.f3 rfl rfl rfl rfl rfl rfl rfl ⟨rfl, rfl, rfl, rfl, rfl⟩ rfl rfl rfl rfl rfl (by kernel_rfl) Try.func3 (by kernel_rfl)
    (of_decide_eq_true (by kernel_rfl)) (by unfold Func.isWrapper; first | (rw [if_pos (by decide +kernel)]; kernel_rfl) | (rw [if_neg (by decide +kernel)]; exact ⟨rfl, rfl⟩))
    (fun os started H enc _ => spanGaps_lifted os started H enc)
#print axioms spanGaps_holds
end Go.Proofs.Ythmekipdhlipbab
