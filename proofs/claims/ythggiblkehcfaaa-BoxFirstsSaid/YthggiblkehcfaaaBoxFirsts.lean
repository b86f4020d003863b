/-
  For every box, box.First tells the least header, or Check's error, as the document says (P7.2), and the box holds it; and the examples of the document hold.
  Conditions: none; the law holds for every input.
-/
import Derived.Test.YthggiblkehcfaaaBxAw
import Derived.Test.YthggiblkehcfaaaBxRa
import Derived.Test.YthggiblkehcfaaaBxH
import Derived.Test.YthggiblkehcfaaaBxFrame
namespace Go.Proofs.Ythggiblkehcfaaa
open Go.ChangeShapes Go.WideShapes Go.ChangeAt Go.RowKit Go.Joins
set_option linter.unusedVariables false
set_option linter.unusedSimpArgs false

theorem has_first (X : Bx) (h : okX X = true) (b : BdX X) : hasH X (firstX X) = true := by
  obtain ⟨h1, h2, h3, h4, h5⟩ := (okX_iff X).1 h
  have e : firstX X = leastX X := by unfold firstX; rw [h]; rfl
  have e2 := brX_self b h (g := leastX X) (e ▸ firstX_ok b)
  rw [e, ← e2, decide_eq_true_eq]
  unfold brX leastX
  simp only
  have a1 := of_decide_eq_true h1
  have a2 := of_decide_eq_true h2
  have a3 := of_decide_eq_true h3
  have a4 := of_decide_eq_true h4
  rw [Hd.mk.injEq]
  refine ⟨by unfold brI; omega, by unfold brI; omega, by unfold brI; omega, by unfold brI; omega, ?_⟩
  have hv := (ok_andNot b.2.2.2.2.2.2.2.2.2 b.2.2.2.2.2.2.2.2.1).2 h5
  unfold brM
  rw [hv]
  simp
set_option maxRecDepth 20000 in
set_option maxHeartbeats 2000000 in
theorem boxFirsts_walk (X : Bx) (b : BdX X) (w : World) :
    Calls Try.prog 5 #[.agg #[.int .u32 (X.a.1 : Int), .int .u32 (X.a.2 : Int), .int .u32 (X.b.1 : Int), .int .u32 (X.b.2 : Int), .int .u16 (X.c.1 : Int), .int .u16 (X.c.2 : Int), .int .u16 (X.d.1 : Int), .int .u16 (X.d.2 : Int), .int .u8 (X.m.1 : Int), .int .u8 (X.m.2 : Int)]] w fun e w' => e = .returned (.bool true) ∧ Below w.heap.size w w' := by
  have h1 := fun W => firstC X W b
  have h2 := fun W => rfirstX X W b
  have h3 := fun W => hasXC X (firstX X) W b (firstX_ok b)
  have hA := fun W => awakeX W
  cases ho : okX X
  · have hn : ¬ chkX X = 0 := fun e => by rw [chkX_ok, ho] at e; cases e
    have hd : decide (chkX X = 0) = false := decide_eq_false hn
    generalize firstX X = g at *
    generalize chkX X = cc at *
    clear b ho h3
    go_enter Try.func5, Try.ntmps5
    go_wp2_with (fail)
    refine (h1 _).mono ?_
    rintro e w1 ⟨rfl, hb1⟩
    have HX1 : Hid (w1.heap[w.heap.size]? = some (.cells #[.int .u32 (X.a.1 : Int), .int .u32 (X.a.2 : Int), .int .u32 (X.b.1 : Int), .int .u32 (X.b.2 : Int), .int .u16 (X.c.1 : Int), .int .u16 (X.c.2 : Int), .int .u16 (X.d.1 : Int), .int .u16 (X.d.2 : Int), .int .u8 (X.m.1 : Int), .int .u8 (X.m.2 : Int)] 33)) := blk_on (blk_new w (.cells #[.int .u32 (X.a.1 : Int), .int .u32 (X.a.2 : Int), .int .u32 (X.b.1 : Int), .int .u32 (X.b.2 : Int), .int .u16 (X.c.1 : Int), .int .u16 (X.c.2 : Int), .int .u16 (X.d.1 : Int), .int .u16 (X.d.2 : Int), .int .u8 (X.m.1 : Int), .int .u8 (X.m.2 : Int)] 33)) hb1
    obtain ⟨c0, c1, c2, c3, c4, c5, c6, c7, c8, c9⟩ := blk10 HX1.out
    have hlt1 := blk_lt HX1.out
    have n1 : ¬ w.heap.size = w1.heap.size := by omega
    have hbl : Hid (Below w.heap.size w w1) := by show Below _ _ _; (repeat (first | assumption | exact Below.refl _ _ | refine Below.drew ?_ | refine bel_drewN ?_ _ | refine Below.setCell ?_ (by first | omega | (simp; done) | (simp; omega)) _ | refine Below.alloc ?_ (by first | omega | (simp; done) | (simp; omega)) _ | refine bel_of ?_ (by assumption)))
    clear hb1 h1
    go_wp2_with (fail)
    refine (h2 _).mono ?_
    rintro e w2 ⟨rfl, hb2⟩
    have HX2 : Hid (w2.heap[w.heap.size]? = some (.cells #[.int .u32 (X.a.1 : Int), .int .u32 (X.a.2 : Int), .int .u32 (X.b.1 : Int), .int .u32 (X.b.2 : Int), .int .u16 (X.c.1 : Int), .int .u16 (X.c.2 : Int), .int .u16 (X.d.1 : Int), .int .u16 (X.d.2 : Int), .int .u8 (X.m.1 : Int), .int .u8 (X.m.2 : Int)] 33)) := blk_on (blk_alloc HX1.out _) hb2
    have HG2 : Hid (w2.heap[w1.heap.size]? = some (.cells #[.int .u32 (g.s : Int), .int .u32 (g.d : Int), .int .u16 (g.p : Int), .int .u16 (g.q : Int), .int .u8 (g.r : Int)] 25)) := blk_on (blk_new w1 _) hb2
    have hbl2 : Hid (Below w.heap.size w w2) := (hbl.out.alloc (by omega) _).trans (hb2.mono (by simp; omega))
    have hz2 := hb2.size
    simp at hz2
    have l2 : w1.heap.size < w2.heap.size := by omega
    have n2 : ¬ w1.heap.size = w2.heap.size := by omega
    have l3 : w.heap.size < w2.heap.size := by omega
    have n3 : ¬ w.heap.size = w2.heap.size := by omega
    clear hb2 h2 c0 c1 c2 c3 c4 c5 c6 c7 c8 c9
    go_wp2_with (fail)
    refine (hA _).mono ?_
    rintro e w3 ⟨rfl, hb3⟩
    have HX3 := blk_on (blk_alloc HX2.out _) hb3
    have HG3 := blk_on (blk_alloc HG2.out _) hb3
    have HK3 := blk_on (blk_new w2 (.cells #[.int .u32 (g.s : Int), .int .u32 (g.d : Int), .int .u16 (g.p : Int), .int .u16 (g.q : Int), .int .u8 (g.r : Int)] 25)) hb3
    obtain ⟨c0, c1, c2, c3, c4, c5, c6, c7, c8, c9⟩ := blk10 HX3
    obtain ⟨d0, d1, d2, d3, d4⟩ := blk5 HG3
    obtain ⟨e0, e1, e2, e3, e4⟩ := blk5 HK3
    have hbl3 : Hid (Below w.heap.size w w3) := (hbl2.out.alloc (by omega) _).trans (hb3.mono (by simp; omega))
    clear hb3 hA HX3 HG3 HK3
    go_wp2
    go_ret
    exact ⟨rfl, hbl3.out⟩
  · rw [has_first X ho b] at h3
    rw [chkX_ok.2 ho] at h1 h2
    generalize firstX X = g at *
    clear b ho
    go_enter Try.func5, Try.ntmps5
    go_wp2_with (fail)
    refine (h1 _).mono ?_
    rintro e w1 ⟨rfl, hb1⟩
    have HX1 : Hid (w1.heap[w.heap.size]? = some (.cells #[.int .u32 (X.a.1 : Int), .int .u32 (X.a.2 : Int), .int .u32 (X.b.1 : Int), .int .u32 (X.b.2 : Int), .int .u16 (X.c.1 : Int), .int .u16 (X.c.2 : Int), .int .u16 (X.d.1 : Int), .int .u16 (X.d.2 : Int), .int .u8 (X.m.1 : Int), .int .u8 (X.m.2 : Int)] 33)) := blk_on (blk_new w (.cells #[.int .u32 (X.a.1 : Int), .int .u32 (X.a.2 : Int), .int .u32 (X.b.1 : Int), .int .u32 (X.b.2 : Int), .int .u16 (X.c.1 : Int), .int .u16 (X.c.2 : Int), .int .u16 (X.d.1 : Int), .int .u16 (X.d.2 : Int), .int .u8 (X.m.1 : Int), .int .u8 (X.m.2 : Int)] 33)) hb1
    obtain ⟨c0, c1, c2, c3, c4, c5, c6, c7, c8, c9⟩ := blk10 HX1.out
    have hlt1 := blk_lt HX1.out
    have n1 : ¬ w.heap.size = w1.heap.size := by omega
    have hbl : Hid (Below w.heap.size w w1) := by show Below _ _ _; (repeat (first | assumption | exact Below.refl _ _ | refine Below.drew ?_ | refine bel_drewN ?_ _ | refine Below.setCell ?_ (by first | omega | (simp; done) | (simp; omega)) _ | refine Below.alloc ?_ (by first | omega | (simp; done) | (simp; omega)) _ | refine bel_of ?_ (by assumption)))
    clear hb1 h1
    go_wp2_with (fail)
    refine (h2 _).mono ?_
    rintro e w2 ⟨rfl, hb2⟩
    have HX2 : Hid (w2.heap[w.heap.size]? = some (.cells #[.int .u32 (X.a.1 : Int), .int .u32 (X.a.2 : Int), .int .u32 (X.b.1 : Int), .int .u32 (X.b.2 : Int), .int .u16 (X.c.1 : Int), .int .u16 (X.c.2 : Int), .int .u16 (X.d.1 : Int), .int .u16 (X.d.2 : Int), .int .u8 (X.m.1 : Int), .int .u8 (X.m.2 : Int)] 33)) := blk_on (blk_alloc HX1.out _) hb2
    have HG2 : Hid (w2.heap[w1.heap.size]? = some (.cells #[.int .u32 (g.s : Int), .int .u32 (g.d : Int), .int .u16 (g.p : Int), .int .u16 (g.q : Int), .int .u8 (g.r : Int)] 25)) := blk_on (blk_new w1 _) hb2
    have hbl2 : Hid (Below w.heap.size w w2) := (hbl.out.alloc (by omega) _).trans (hb2.mono (by simp; omega))
    have hz2 := hb2.size
    simp at hz2
    have l2 : w1.heap.size < w2.heap.size := by omega
    have n2 : ¬ w1.heap.size = w2.heap.size := by omega
    have l3 : w.heap.size < w2.heap.size := by omega
    have n3 : ¬ w.heap.size = w2.heap.size := by omega
    clear hb2 h2 c0 c1 c2 c3 c4 c5 c6 c7 c8 c9
    go_wp2_with (fail)
    refine (hA _).mono ?_
    rintro e w3 ⟨rfl, hb3⟩
    have HX3 := blk_on (blk_alloc HX2.out _) hb3
    have HG3 := blk_on (blk_alloc HG2.out _) hb3
    have HK3 := blk_on (blk_new w2 (.cells #[.int .u32 (g.s : Int), .int .u32 (g.d : Int), .int .u16 (g.p : Int), .int .u16 (g.q : Int), .int .u8 (g.r : Int)] 25)) hb3
    obtain ⟨c0, c1, c2, c3, c4, c5, c6, c7, c8, c9⟩ := blk10 HX3
    obtain ⟨d0, d1, d2, d3, d4⟩ := blk5 HG3
    obtain ⟨e0, e1, e2, e3, e4⟩ := blk5 HK3
    have hbl3 : Hid (Below w.heap.size w w3) := (hbl2.out.alloc (by omega) _).trans (hb3.mono (by simp; omega))
    clear hb3 hA HX3 HG3 HK3
    go_wp2_with (fail)
    refine (h3 _).mono ?_
    rintro e w4 ⟨rfl, hb4⟩
    have hbl4 : Hid (Below w.heap.size w w4) := hbl3.out.trans (hb4.mono hbl3.out.size)
    clear hb4 h3
    go_wp2
    go_ret
    exact ⟨rfl, hbl4.out⟩

set_option maxRecDepth 100000 in
theorem boxFirsts_lifted (os : Os) (started : os.Started) (H : Type) (enc : TypeId × Value → H) :
    ReturnsInHanded {} Try.checked os 5 .any (Rows.boxFirstsSpec.pre6 enc Try.prog Try.f5 Rows.boxFirstsRow.domain false) (Rows.boxFirstsSpec.post enc Try.prog Try.f5 false true false false) := by
  refine returnsInHanded_of_change (C := Try.checked) own started (by kernel_rfl) Try.func5
    (ChangeSpec.witness6 (enc := enc) (C := Try.checked) false ⟨#[], #[.agg #[.int .u32 0, .int .u32 0, .int .u32 0, .int .u32 0, .int .u16 0, .int .u16 0, .int .u16 0, .int .u16 0, .int .u8 0, .int .u8 0]], []⟩ 8 (by kernel_rfl) (by kernel_rfl) (by kernel_rfl) (by kernel_rfl)) ?_
  intro W base args ds gs before hval0 hW hcnd _
  have hval : ∀ (j : Nat) t v, Try.f5.params[j]? = some t → args[j]? = some v → Value.okWide Try.prog W .any base t v := hval0
  have hW' := hW
  obtain ⟨p, q, hA0, hV, rfl, hfz, hnd⟩ := hW
  have hA : DataW.TrodAll enc Try.prog W 0 (fun _ => true) true Try.f5.params.toList args.toList ds p := hA0
  rw [Try.params5] at hA hval
  obtain ⟨v0, vs0, d0, ds0, p0, q0, hargs, rfl, rfl, h0, r0⟩ := trodAll_cons hA
  obtain ⟨rfl, rfl, rfl⟩ := trodAll_nil r0
  obtain rfl : args = #[v0] := by cases args; simp_all
  obtain ⟨rfl, rfl⟩ := trodVars_none hV
  obtain ⟨g0, rfl, rfl, rfl, o0⟩ := open_bx (hval 0 33 v0 rfl rfl) h0
  clear hA0 hval0
  simp only [List.append_nil] at hW'
  refine (boxFirsts_walk g0 o0 W ).mono fun e W' ⟨he, bel⟩ => ?_
  subst he
  exact ⟨_, rfl, _, _, _, [], _, [], hW', trodAll_mk1 (shut_bool Try.underlying4 _), (trodAll_cons_mk (shut_bx o0) trodAll_mk0), rfl, bel.frame _, fun h => by cases h⟩

/-- The given statement. -/
theorem boxFirsts_holds : Rows.BoxFirstsSaid :=
  OpenClaim.holds_of_wide 5 Try.f5 rfl rfl rfl rfl rfl rfl rfl ⟨rfl, rfl, rfl, rfl, rfl⟩ rfl rfl rfl rfl rfl (by kernel_rfl) Try.func5 (by kernel_rfl)
    (of_decide_eq_true (by kernel_rfl)) (by unfold Func.isWrapper; first | (rw [if_pos (by decide +kernel)]; kernel_rfl) | (rw [if_neg (by decide +kernel)]; exact ⟨rfl, rfl⟩))
    (fun os started H enc _ => boxFirsts_lifted os started H enc)
#print axioms boxFirsts_holds
end Go.Proofs.Ythggiblkehcfaaa
