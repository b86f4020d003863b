/-
  The law HashNil answers true for every header and number: on no table Put answers ErrNil, Get a zero value and false, Delete false, All gives nothing, Len, Slots and Probes are 0, and the document's examples are met (R3).
  Conditions: none; the law holds for every input.
-/
import Derived.Test.YthfjdoenofkghaaHhI
import Derived.Test.YthfjdoenofkghaaHhFr
namespace Go.Proofs.Ythfjdoenofkghaa
open Go.ChangeShapes Go.WideShapes Go.ChangeAt Go.RowKit Go.Joins
set_option linter.unusedVariables false
set_option linter.unusedSimpArgs false

set_option maxHeartbeats 4000000 in
set_option maxRecDepth 20000 in
theorem hashNil_walk (k : Hd) (o : OkH k) (n : Int) (hn : I64 n) (w : World) :
    Calls Try.prog 6 #[.agg #[.int .u32 (k.s : Int), .int .u32 (k.d : Int), .int .u16 (k.p : Int), .int .u16 (k.q : Int), .int .u8 (k.r : Int)], .int .i64 n] w fun e w' => e = .returned (.bool true) ∧ Below w.heap.size w w' := by
  have HK0 : Hid (((w.alloc (.cells #[.int .u32 (k.s : Int), .int .u32 (k.d : Int), .int .u16 (k.p : Int), .int .u16 (k.q : Int), .int .u8 (k.r : Int)] 36)).alloc (.cells #[.bool false] 4)).heap[w.heap.size]? = some (.cells #[.int .u32 (k.s : Int), .int .u32 (k.d : Int), .int .u16 (k.p : Int), .int .u16 (k.q : Int), .int .u8 (k.r : Int)] 36)) := blk_alloc (blk_new w _) _
  have HR0 : Hid (((w.alloc (.cells #[.int .u32 (k.s : Int), .int .u32 (k.d : Int), .int .u16 (k.p : Int), .int .u16 (k.q : Int), .int .u8 (k.r : Int)] 36)).alloc (.cells #[.bool false] 4)).heap[w.heap.size + 1]? = some (.cells #[.bool false] 4)) := by
    have := blk_new (w.alloc (.cells #[.int .u32 (k.s : Int), .int .u32 (k.d : Int), .int .u16 (k.p : Int), .int .u16 (k.q : Int), .int .u8 (k.r : Int)] 36)) (.cells #[.bool false] 4)
    rw [show (w.alloc (.cells #[.int .u32 (k.s : Int), .int .u32 (k.d : Int), .int .u16 (k.p : Int), .int .u16 (k.q : Int), .int .u8 (k.r : Int)] 36)).heap.size = w.heap.size + 1 by simp] at this
    exact this
  have HB0 : Hid (Below w.heap.size w ((w.alloc (.cells #[.int .u32 (k.s : Int), .int .u32 (k.d : Int), .int .u16 (k.p : Int), .int .u16 (k.q : Int), .int .u8 (k.r : Int)] 36)).alloc (.cells #[.bool false] 4))) := by show Below _ _ _; (repeat (first | assumption | exact Below.refl _ _ | refine Below.drew ?_ | refine bel_drewN ?_ _ | refine Below.setCell ?_ (by first | omega | (simp; done) | (simp; omega)) _ | refine Below.alloc ?_ (by first | omega | (simp; done) | (simp; omega)) _ | refine bel_of ?_ (by assumption)))
  have hz0 : ((w.alloc (.cells #[.int .u32 (k.s : Int), .int .u32 (k.d : Int), .int .u16 (k.p : Int), .int .u16 (k.q : Int), .int .u8 (k.r : Int)] 36)).alloc (.cells #[.bool false] 4)).heap.size = w.heap.size + 2 := by simp
  clear o hn
  refine callsIn_wide.1 (callsIn_of_wp_marks (n := 9) Try.func6 rfl trivial ?_ rfl)
  simp only [Try.ntmps6, List.size_toArray, List.length_cons, List.length_nil, Nat.reduceAdd, Nat.reduceSub, Array.replicate_succ, Array.replicate_zero, List.push_toArray, List.append_toArray, List.nil_append, List.cons_append]
  refine wpIn_wide.2 ?_
  go_upto_region 2 with (fail)
  generalize (w.alloc (.cells #[.int .u32 (k.s : Int), .int .u32 (k.d : Int), .int .u16 (k.p : Int), .int .u16 (k.q : Int), .int .u8 (k.r : Int)] 36)).alloc (.cells #[.bool false] 4) = W0 at *
  obtain ⟨k0, k1, k2, k3, k4⟩ := blk5 HK0.out
  go_wp2_with (fail)
  refine (put_nil k n W0).mono ?_
  rintro e w1 ⟨rfl, hb⟩
  have HK1 : Hid (w1.heap[w.heap.size]? = some (.cells #[.int .u32 (k.s : Int), .int .u32 (k.d : Int), .int .u16 (k.p : Int), .int .u16 (k.q : Int), .int .u8 (k.r : Int)] 36)) := blk_on HK0.out hb
  have HR1 : Hid (w1.heap[w.heap.size + 1]? = some (.cells #[.bool false] 4)) := blk_on HR0.out hb
  have HB1 : Hid (Below w.heap.size w w1) := bel_of HB0.out hb HB0.out.size
  have hz1 : w.heap.size + 2 ≤ w1.heap.size := by have := hb.size; omega
  clear hb k0 k1 k2 k3 k4 HK0 HR0 HB0 hz0
  obtain ⟨k0, k1, k2, k3, k4⟩ := blk5 HK1.out
  go_wp2_with (fail)
  refine (get_nil k w1).mono ?_
  rintro e w2 ⟨rfl, hb⟩
  have HK2 : Hid (w2.heap[w.heap.size]? = some (.cells #[.int .u32 (k.s : Int), .int .u32 (k.d : Int), .int .u16 (k.p : Int), .int .u16 (k.q : Int), .int .u8 (k.r : Int)] 36)) := blk_on HK1.out hb
  have HR2 : Hid (w2.heap[w.heap.size + 1]? = some (.cells #[.bool false] 4)) := blk_on HR1.out hb
  have HB2 : Hid (Below w.heap.size w w2) := bel_of HB1.out hb HB1.out.size
  have hz2 : w.heap.size + 2 ≤ w2.heap.size := by have := hb.size; omega
  clear hb k0 k1 k2 k3 k4 HK1 HR1 HB1 hz1
  go_wp2_with (fail)
  refine (allC none w2).mono ?_
  rintro e w3 ⟨rfl, hw⟩
  have hnf := fun V => eq_nilF 28 #[.pointer (some ⟨w2.heap.size, 0, none⟩)] V
  have hb : Below w2.heap.size w2 w3 := by rw [hw]; exact (Below.refl _ _).alloc (Nat.le_refl _) _
  have HC3 : Hid (w3.heap[w2.heap.size]? = some (.cells #[.pointer none] 22)) := by show _ = _; rw [hw]; exact blk_new w2 _
  have HK3 : Hid (w3.heap[w.heap.size]? = some (.cells #[.int .u32 (k.s : Int), .int .u32 (k.d : Int), .int .u16 (k.p : Int), .int .u16 (k.q : Int), .int .u8 (k.r : Int)] 36)) := blk_on HK2.out hb
  have HR3 : Hid (w3.heap[w.heap.size + 1]? = some (.cells #[.bool false] 4)) := blk_on HR2.out hb
  have HB3 : Hid (Below w.heap.size w w3) := bel_of HB2.out hb HB2.out.size
  have hz3 : w.heap.size + 2 ≤ w3.heap.size := by have := hb.size; omega
  clear hb hw HK2 HR2 HB2
  go_wp2_with (fail)
  refine (wpIn_wide (n := 9)).1 ?_
  refine nil_top rfl (enters_of Try.func28 (by kernel_rfl) rfl) (all0_seq w2.heap.size w3 HC3.out) ?_
  intro C V hC hbV hD
  have HK4 : Hid (V.heap[w.heap.size]? = some (.cells #[.int .u32 (k.s : Int), .int .u32 (k.d : Int), .int .u16 (k.p : Int), .int .u16 (k.q : Int), .int .u8 (k.r : Int)] 36)) := blk_on HK3.out hbV
  have HR4 : Hid (V.heap[w.heap.size + 1]? = some (.cells #[.bool false] 4)) := blk_on HR3.out hbV
  have HB4 : Hid (Below w.heap.size w V) := bel_of HB3.out hbV HB3.out.size
  have HD4 : Hid (V.heap[C]? = some (.deferred (some []))) := hD
  have hCz : w.heap.size + 2 ≤ C := by omega
  clear hbV hD HC3 HK3 HR3 HB3 hnf hC
  go_wp2_with (fail)
  refine (awakeC V).mono ?_
  rintro e w5 ⟨rfl, hb⟩
  have HK5 : Hid (w5.heap[w.heap.size]? = some (.cells #[.int .u32 (k.s : Int), .int .u32 (k.d : Int), .int .u16 (k.p : Int), .int .u16 (k.q : Int), .int .u8 (k.r : Int)] 36)) := blk_on HK4.out hb
  have HR5 : Hid (w5.heap[w.heap.size + 1]? = some (.cells #[.bool false] 4)) := blk_on HR4.out hb
  have HB5 : Hid (Below w.heap.size w w5) := bel_of HB4.out hb HB4.out.size
  have HD5 : Hid (w5.heap[C]? = some (.deferred (some []))) := blk_on HD4.out hb
  clear hb HK4 HR4 HB4 HD4
  obtain ⟨k0, k1, k2, k3, k4⟩ := blk5 HK5.out
  go_wp2_with (fail)
  refine (del_nil k w5).mono ?_
  rintro e w6 ⟨rfl, hb⟩
  have HK6 : Hid (w6.heap[w.heap.size]? = some (.cells #[.int .u32 (k.s : Int), .int .u32 (k.d : Int), .int .u16 (k.p : Int), .int .u16 (k.q : Int), .int .u8 (k.r : Int)] 36)) := blk_on HK5.out hb
  have HR6 : Hid (w6.heap[w.heap.size + 1]? = some (.cells #[.bool false] 4)) := blk_on HR5.out hb
  have HB6 : Hid (Below w.heap.size w w6) := bel_of HB5.out hb HB5.out.size
  have HD6 : Hid (w6.heap[C]? = some (.deferred (some []))) := blk_on HD5.out hb
  clear hb HK5 HR5 HB5 HD5 k0 k1 k2 k3 k4
  go_wp2_with (fail)
  refine (len_nil w6).mono ?_
  rintro e w7 ⟨rfl, hb⟩
  have HK7 : Hid (w7.heap[w.heap.size]? = some (.cells #[.int .u32 (k.s : Int), .int .u32 (k.d : Int), .int .u16 (k.p : Int), .int .u16 (k.q : Int), .int .u8 (k.r : Int)] 36)) := blk_on HK6.out hb
  have HR7 : Hid (w7.heap[w.heap.size + 1]? = some (.cells #[.bool false] 4)) := blk_on HR6.out hb
  have HB7 : Hid (Below w.heap.size w w7) := bel_of HB6.out hb HB6.out.size
  have HD7 : Hid (w7.heap[C]? = some (.deferred (some []))) := blk_on HD6.out hb
  clear hb HK6 HR6 HB6 HD6
  go_wp2_with (fail)
  refine (slots_nil w7).mono ?_
  rintro e w8 ⟨rfl, hb⟩
  have HK8 : Hid (w8.heap[w.heap.size]? = some (.cells #[.int .u32 (k.s : Int), .int .u32 (k.d : Int), .int .u16 (k.p : Int), .int .u16 (k.q : Int), .int .u8 (k.r : Int)] 36)) := blk_on HK7.out hb
  have HR8 : Hid (w8.heap[w.heap.size + 1]? = some (.cells #[.bool false] 4)) := blk_on HR7.out hb
  have HB8 : Hid (Below w.heap.size w w8) := bel_of HB7.out hb HB7.out.size
  have HD8 : Hid (w8.heap[C]? = some (.deferred (some []))) := blk_on HD7.out hb
  clear hb HK7 HR7 HB7 HD7
  obtain ⟨k0, k1, k2, k3, k4⟩ := blk5 HK8.out
  go_wp2_with (fail)
  refine (probes_nil k w8).mono ?_
  rintro e w9 ⟨rfl, hb⟩
  have HR9 : Hid (w9.heap[w.heap.size + 1]? = some (.cells #[.bool false] 4)) := blk_on HR8.out hb
  have HB9 : Hid (Below w.heap.size w w9) := bel_of HB8.out hb HB8.out.size
  have HD9 : Hid (w9.heap[C]? = some (.deferred (some []))) := blk_on HD8.out hb
  clear hb HK8 HR8 HB8 HD8 k0 k1 k2 k3 k4
  have r0 := blk_cell HR9.out (j := 0) rfl
  have f0 := blk_free HR9.out 0
  go_wp2_with (fail)
  have hK' := blk_far HD9.out (show C ≠ w.heap.size + 1 by omega) (j := 0) (.bool true)
  refine ⟨by simp, .inl ⟨_, _, rfl, run_takeDeferred hK', ?_⟩⟩
  have q1 := blk_set HR9.out (j := 0) (.bool true)
  have q2 := blk_kept q1 (grownBy_putObj' _ C (.deferred none)) (fun r e => by cases e; exact ⟨_, hK', rfl⟩)
  have q4 := blk_cell q2 (j := 0) (v := .bool true) (by simp)
  refine ⟨.bool true, ?_, rfl, (HB9.out.setCell (p := ⟨w.heap.size + 1, 0, none⟩) (by simp) _).trans (belowK_b (w := w) (Nat.le_refl _) _ C _ _ (by omega) hK' rfl rfl)⟩
  simp [results, Try.results6, go_sem, q4]

set_option maxRecDepth 100000 in
theorem hashNil_lifted (os : Os) (started : os.Started) (H : Type) (enc : TypeId × Value → H) :
    ReturnsInHanded {} Try.checked os 6 .any (Rows.hashNilSpec.pre6 enc Try.prog Try.f6 Rows.hashNilRow.domain false) (Rows.hashNilSpec.post enc Try.prog Try.f6 false true false false) := by
  refine returnsInHanded_of_change (C := Try.checked) own started (by kernel_rfl) Try.func6
    (ChangeSpec.witness6 (enc := enc) (C := Try.checked) false ⟨#[], #[.agg #[.int .u32 0, .int .u32 0, .int .u16 0, .int .u16 0, .int .u8 0], .int .i64 0], []⟩ 8 (by kernel_rfl) (by kernel_rfl) (by kernel_rfl) (by kernel_rfl)) ?_
  intro W base args ds gs before hval0 hW hcnd _
  have hval : ∀ (j : Nat) t v, Try.f6.params[j]? = some t → args[j]? = some v → Value.okWide Try.prog W .any base t v := hval0
  have hW' := hW
  obtain ⟨p, q, hA0, hV, rfl, hfz, hnd⟩ := hW
  have hA : DataW.TrodAll enc Try.prog W 0 (fun _ => true) true Try.f6.params.toList args.toList ds p := hA0
  rw [Try.params6] at hA hval
  obtain ⟨v0, vs0, d0, ds0, p0, q0, hargs, rfl, rfl, h0, r0⟩ := trodAll_cons hA
  obtain ⟨v1, vs1, d1, ds1, p1, q1, rfl, rfl, rfl, h1, r1⟩ := trodAll_cons r0
  obtain ⟨rfl, rfl, rfl⟩ := trodAll_nil r1
  obtain rfl : args = #[v0, v1] := by cases args; simp_all
  obtain ⟨rfl, rfl⟩ := trodVars_none hV
  have hlt0 : ∀ x ∈ p0, x.block < W.heap.size := fun x hx => by simpa using hW'.lt x (by simp [hx])
  obtain ⟨a0, rfl, b0⟩ := open_hd (hval 0 36 v0 rfl rfl) h0
  have hlt1 : ∀ x ∈ p1, x.block < W.heap.size := fun x hx => by simpa using hW'.lt x (by simp [hx])
  obtain ⟨a1, rfl, _, _, w1⟩ := open_int Try.underlying3 (hval 1 3 v1 rfl rfl) h1
  clear hA0 hval0
  simp only [List.append_nil] at hW'
  refine (hashNil_walk a0 b0 a1 (wf_sgn w1) W ).mono fun e W' ⟨he, bel⟩ => ?_
  subst he
  exact ⟨_, rfl, _, _, _, [], _, [], hW', trodAll_mk1 (shut_bool Try.underlying4 _), (trodAll_cons_mk (Below.trod laidOut (by kernel_rfl) (of_decide_eq_true (by kernel_rfl)) h0 bel hlt0) (trodAll_cons_mk (Below.trod laidOut (by kernel_rfl) (of_decide_eq_true (by kernel_rfl)) h1 bel hlt1) trodAll_mk0)), rfl, bel.frame _, fun h => by cases h⟩

/-- The given statement. -/
theorem hashNil_holds : Rows.HashNilSaid :=
  OpenClaim.holds_of_wide 6 Try.f6 rfl rfl rfl rfl rfl rfl rfl ⟨rfl, rfl, rfl, rfl, rfl⟩ rfl rfl rfl rfl rfl (by kernel_rfl) Try.func6 (by kernel_rfl)
    (of_decide_eq_true (by kernel_rfl)) (by unfold Func.isWrapper; first | (rw [if_pos (by decide +kernel)]; kernel_rfl) | (rw [if_neg (by decide +kernel)]; exact ⟨rfl, rfl⟩))
    (fun os started H enc _ => hashNil_lifted os started H enc)
#print axioms hashNil_holds
end Go.Proofs.Ythfjdoenofkghaa
