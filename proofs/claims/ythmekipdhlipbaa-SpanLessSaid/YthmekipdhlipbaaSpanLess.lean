/-
  For every two spans, span.Less tells the document's spans, twice, whatever its caller writes over what was told first; the examples of the document hold.
  Conditions: none; the law holds for every input.
-/
import Derived.Test.YthmekipdhlipbaaSpMe
import Derived.Test.YthmekipdhlipbaaSpRf
import Derived.Test.YthmekipdhlipbaaSpFrame
namespace Go.Proofs.Ythmekipdhlipbaa
open Go.ChangeShapes Go.WideShapes Go.ChangeAt Go.RowKit Go.Joins
set_option linter.unusedVariables false
set_option linter.unusedSimpArgs false

theorem row_ne {w w' : World} {b b' : Nat} {v v' : Value} {l l' : List (Nat × Nat)} (h : Row w b v l) (h' : Row w' b' v' l') (hb : w.heap.size ≤ b') : v'.ownBlock = none ∨ v'.ownBlock ≠ v.ownBlock := by
  cases e : v'.ownBlock with
  | none => exact .inl rfl
  | some k =>
    right
    intro e2
    have h1 := (h'.lt k e).1
    have h2 := (h.lt k e2.symm).2
    omega
theorem blk_ne {w : World} {b k : Nat} {v : Value} {l : List (Nat × Nat)} (h : Row w b v l) (hk : k < b) : some k ≠ v.ownBlock := fun e => by
  have := (h.lt k e.symm).1; omega
set_option maxHeartbeats 1000000 in
theorem spanLess_walk (a b : Nat) (ha : a < 65536) (hb : b < 65536) (c d : Nat) (hc : c < 65536) (hd : d < 65536) (w : World) :
    Calls Try.prog 7 #[.agg #[.int .u16 a, .int .u16 b], .agg #[.int .u16 c, .int .u16 d]] w fun e w' => e = .returned (.bool true) ∧ Below w.heap.size w w' := by
  have hlen := length_canonOf (lessB (a, b) (c, d))
  have c1 := fun W => lessS a b c d W ha hb
  have c2 := fun W => rlessS a b c d W ha hb hc hd
  generalize canonOf (lessB (a, b) (c, d)) = L at c1 c2 hlen
  go_enter Try.func7, Try.ntmps7
  go_wp2_with (fail)
  refine (c1 _).mono ?_
  rintro e w1 ⟨v1, rfl, r1, hb1⟩
  have hz1 := hb1.size
  simp at hz1
  have R1 : Hid (Row w1 (w.heap.size + 1 + 1) v1 L) := by simp only [World.size_alloc] at r1; exact r1
  have x0 : w1.cell? ⟨w.heap.size, 0, none⟩ = some (.int .u16 a) := cell_on hb1 (cell_alloc (by simp [go_sem]))
  have x1 : w1.cell? ⟨w.heap.size, 1, none⟩ = some (.int .u16 b) := cell_on hb1 (cell_alloc (by simp [go_sem]))
  have y0 : w1.cell? ⟨w.heap.size + 1, 0, none⟩ = some (.int .u16 c) := cell_on hb1 (by simp [go_sem])
  have y1 : w1.cell? ⟨w.heap.size + 1, 1, none⟩ = some (.int .u16 d) := cell_on hb1 (by simp [go_sem])
  have B1 : Hid (Below w.heap.size w w1) := by show Below _ _ _; (repeat (first | assumption | exact Below.refl _ _ | refine Below.drew ?_ | refine bel_drewN ?_ _ | refine Below.setCell ?_ (by first | omega | (simp; done) | (simp; omega)) _ | refine Below.alloc ?_ (by first | omega | (simp; done) | (simp; omega)) _ | refine bel_of ?_ (by assumption)))
  clear r1 hb1
  go_wp2_with (fail)
  refine (c2 _).mono ?_
  rintro e w2 ⟨v2, rfl, r2, hb2⟩
  have R2 : Hid (Row w2 w1.heap.size v2 L) := r2
  have hz2 := hb2.size
  have x0 := cell_on hb2 x0
  have x1 := cell_on hb2 x1
  have y0 := cell_on hb2 y0
  have y1 := cell_on hb2 y1
  have R1' : Hid (Row w2 (w.heap.size + 1 + 1) v1 L) := R1.out.on hb2
  have B2 : Hid (Below w.heap.size w w2) := B1.out.trans (hb2.mono B1.out.size)
  clear r2 hb2 B1
  go_wp2_with (fail)
  refine (sameS L (by omega) _ _ _ R1'.out.src R2.out.src).mono ?_
  rintro e w3 ⟨rfl, hb3⟩
  have hz3 := hb3.size
  have x0 := cell_on hb3 x0
  have x1 := cell_on hb3 x1
  have y0 := cell_on hb3 y0
  have y1 := cell_on hb3 y1
  have R1'' : Hid (Row w3 (w.heap.size + 1 + 1) v1 L) := R1'.out.on hb3
  have R2' : Hid (Row w3 w1.heap.size v2 L) := R2.out.on hb3
  have B3 : Hid (Below w.heap.size w w3) := B2.out.trans (hb3.mono B2.out.size)
  clear hb3 B2 R2 R1'
  go_wp2_with (fail)
  refine (spoilS L v1 _ _ R1''.out).mono ?_
  rintro e w4 ⟨rfl, hg4⟩
  have hz4 := hg4.size
  have x0 := hg4.cell x0 (blk_ne R1''.out (by show w.heap.size < _; omega))
  have x1 := hg4.cell x1 (blk_ne R1''.out (by show w.heap.size < _; omega))
  have y0 := hg4.cell y0 (blk_ne R1''.out (by show w.heap.size + 1 < _; omega))
  have y1 := hg4.cell y1 (blk_ne R1''.out (by show w.heap.size + 1 < _; omega))
  have R4 : Hid (Row w4 w1.heap.size v2 L) := World.ownsRow.kept R2'.out hg4 (row_ne R1.out R2'.out (Nat.le_refl _))
  have B4 : Hid (Below w.heap.size w w4) := B3.out.grown hg4 B3.out.size (fun k hk => by have := (R1''.out.lt k hk).1; omega)
  clear hg4 B3 R1 R1'' R2'
  go_wp2_with (fail)
  refine (c1 _).mono ?_
  rintro e w5 ⟨v5, rfl, r5, hb5⟩
  have R5 : Hid (Row w5 w4.heap.size v5 L) := r5
  have R4' : Hid (Row w5 w1.heap.size v2 L) := R4.out.on hb5
  have B5 : Hid (Below w.heap.size w w5) := B4.out.trans (hb5.mono B4.out.size)
  clear r5 hb5 R4 B4 x0 x1 y0 y1
  go_wp2_with (fail)
  refine (awakeS _).mono ?_
  rintro e w6 ⟨rfl, hb6⟩
  have B6 : Hid (Below w.heap.size w w6) := B5.out.trans (hb6.mono B5.out.size)
  go_wp2_with (fail)
  refine (sameS L (by omega) _ _ _ (R5.out.on hb6).src (R4'.out.on hb6).src).mono ?_
  rintro e w7 ⟨rfl, hb7⟩
  have B7 : Hid (Below w.heap.size w w7) := B6.out.trans (hb7.mono B6.out.size)
  go_wp2
  go_ret
  exact ⟨rfl, B7.out⟩

set_option maxRecDepth 100000 in
theorem spanLess_lifted (os : Os) (started : os.Started) (H : Type) (enc : TypeId × Value → H) :
    ReturnsInHanded {} Try.checked os 7 .any (Rows.spanLessSpec.pre6 enc Try.prog Try.f7 Rows.spanLessRow.domain false) (Rows.spanLessSpec.post enc Try.prog Try.f7 false true false false) := by
  refine returnsInHanded_of_change (C := Try.checked) own started (by kernel_rfl) Try.func7
    (ChangeSpec.witness6 (enc := enc) (C := Try.checked) false ⟨#[], #[.agg #[.int .u16 0, .int .u16 0], .agg #[.int .u16 0, .int .u16 0]], []⟩ 8 (by kernel_rfl) (by kernel_rfl) (by kernel_rfl) (by kernel_rfl)) ?_
  intro W base args ds gs before hval0 hW hcnd _
  have hval : ∀ (j : Nat) t v, Try.f7.params[j]? = some t → args[j]? = some v → Value.okWide Try.prog W .any base t v := hval0
  have hW' := hW
  obtain ⟨p, q, hA0, hV, rfl, hfz, hnd⟩ := hW
  have hA : DataW.TrodAll enc Try.prog W 0 (fun _ => true) true Try.f7.params.toList args.toList ds p := hA0
  rw [Try.params7] at hA hval
  obtain ⟨v0, vs0, d0, ds0, p0, q0, hargs, rfl, rfl, h0, r0⟩ := trodAll_cons hA
  obtain ⟨v1, vs1, d1, ds1, p1, q1, rfl, rfl, rfl, h1, r1⟩ := trodAll_cons r0
  obtain ⟨rfl, rfl, rfl⟩ := trodAll_nil r1
  obtain rfl : args = #[v0, v1] := by cases args; simp_all
  obtain ⟨rfl, rfl⟩ := trodVars_none hV
  obtain ⟨a0, n0, rfl, rfl, rfl, w0, x0⟩ := open_sp (hval 0 41 v0 rfl rfl) h0
  obtain ⟨b0, rfl, t0⟩ := wf_u16 w0
  obtain ⟨c0, rfl, u0⟩ := wf_u16 x0
  obtain ⟨a1, n1, rfl, rfl, rfl, w1, x1⟩ := open_sp (hval 1 41 v1 rfl rfl) h1
  obtain ⟨b1, rfl, t1⟩ := wf_u16 w1
  obtain ⟨c1, rfl, u1⟩ := wf_u16 x1
  clear hA0 hval0
  simp only [List.append_nil] at hW'
  refine (spanLess_walk b0 c0 t0 u0 b1 c1 t1 u1 W ).mono fun e W' ⟨he, bel⟩ => ?_
  subst he
  exact ⟨_, rfl, _, _, _, [], _, [], hW', trodAll_mk1 (shut_bool Try.underlying4 _), (trodAll_cons_mk (shut_sp w0 x0) (trodAll_cons_mk (shut_sp w1 x1) trodAll_mk0)), rfl, bel.frame _, fun h => by cases h⟩

/-- The given statement. -/
theorem spanLess_holds : Rows.SpanLessSaid :=
  OpenClaim.holds_of_wide 7 Try.f7 rfl rfl rfl rfl rfl rfl rfl ⟨rfl, rfl, rfl, rfl, rfl⟩ rfl rfl rfl rfl rfl (by kernel_rfl) Try.func7 (by kernel_rfl)
    (of_decide_eq_true (by kernel_rfl)) (by unfold Func.isWrapper; first | (rw [if_pos (by decide +kernel)]; kernel_rfl) | (rw [if_neg (by decide +kernel)]; exact ⟨rfl, rfl⟩))
    (fun os started H enc _ => spanLess_lifted os started H enc)
#print axioms spanLess_holds
end Go.Proofs.Ythmekipdhlipbaa
