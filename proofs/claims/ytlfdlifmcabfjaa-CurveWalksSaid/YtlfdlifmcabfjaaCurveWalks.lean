/-
  The law CurveWalks answers true for every order and any number: Walk gives the document's points one behind the other, as far as it is gone through, twice, left early, and within itself; the document's examples are met.
  Conditions: none; the law holds for every input.
-/
import Derived.Test.YtlfdlifmcabfjaaCvZ
import Derived.Test.YtlfdlifmcabfjaaCvFr
namespace Go.Proofs.Ytlfdlifmcabfjaa
open Go.ChangeShapes Go.WideShapes Go.ChangeAt Go.RowKit Go.Joins
set_option linter.unusedVariables false
set_option linter.unusedSimpArgs false

theorem segs_at (n : Nat) (l : List (SQ n)) : ∀ (k q r : Nat) (hr : r < l.length), q < k → (segs n l k)[q * l.length + r]? = some (seg n q (l[r]'hr))
  | 0, q, r, hr, h => by omega
  | k + 1, q, r, hr, h => by
    simp only [segs]
    by_cases hq : q < k
    · rw [List.getElem?_append_left, segs_at n l k q r hr hq]
      rw [segs_len]
      have : (q + 1) * l.length ≤ k * l.length := Nat.mul_le_mul_right _ hq
      rw [Nat.succ_mul] at this
      omega
    · obtain rfl : q = k := by omega
      rw [List.getElem?_append_right (by rw [segs_len]; omega), segs_len, Nat.add_sub_cancel_left, List.getElem?_map, List.getElem?_eq_getElem hr]; rfl
theorem wlk_at : ∀ (n j : Nat) (h : j < (wlk n).length), ((wlk n)[j]'h).1 = hil n (j : Int)
  | 0, j, h => by
    have : j = 0 := by simp [wlk] at h; exact h
    subst this; rfl
  | n + 1, j, h => by
    have hl : j < 4 ^ (n + 1) := by rw [← wlk_len]; exact h
    have hN := Nat.pow_pos (n := n) (show 0 < 4 by omega)
    have hq : j / 4 ^ n < 4 := by rw [Nat.div_lt_iff_lt_mul hN]; rw [Nat.pow_succ] at hl; omega
    have hr : j % 4 ^ n < (wlk n).length := by rw [wlk_len]; exact Nat.mod_lt _ hN
    have ha := segs_at n (wlk n) 4 (j / 4 ^ n) (j % 4 ^ n) hr hq
    rw [wlk_len, Nat.mul_comm, Nat.div_add_mod] at ha
    have hb : (wlk (n + 1))[j]? = some (seg n (j / 4 ^ n) ((wlk n)[j % 4 ^ n]'hr)) := ha
    rw [List.getElem?_eq_getElem h] at hb
    have hc := Option.some.inj hb
    rw [hc]
    show layP (2 ^ n) ((j / 4 ^ n % 4 : Nat) : Int) ((wlk n)[j % 4 ^ n]'hr).1 = layP (2 ^ n) ((j : Int) / 4 ^ n) (hil n ((j : Int) % 4 ^ n))
    rw [wlk_at n _ hr, Nat.mod_eq_of_lt hq]
    have e1 : ((j / 4 ^ n : Nat) : Int) = (j : Int) / 4 ^ n := by rw [Int.natCast_ediv, Int.natCast_pow]; rfl
    have e2 : ((j % 4 ^ n : Nat) : Int) = (j : Int) % 4 ^ n := by rw [Int.natCast_emod, Int.natCast_pow]; rfl
    rw [e1, e2]
theorem curveWalks_walk (o : Int) (ho : I64 o) (ea : Int) (hea : I64 ea) (w : World) :
    Calls Try.prog 6 #[.int .i64 o, .int .i64 ea] w fun e w' => e = .returned (.bool true) ∧ Below w.heap.size w w' := by
  by_cases h : o < 1 ∨ 16 < o
  · exact walks_core 0 _ (by omega) [] o ea w (fun W => walk_none o h W) hea (fun j hj => ⟨0, 0, 130, fun W => rAt_order o j W h, fun h => by simp at h, fun _ => by omega⟩) (fun x hx => by simp at hx)
  · obtain ⟨n, rfl⟩ : ∃ n : Nat, o = (n : Int) := ⟨o.toNat, by omega⟩
    have h1 : 1 ≤ n := by omega
    have h2 : n ≤ 16 := by omega
    refine walks_core n _ h2 (wlk n) _ ea w (fun W => walk_ok n h1 h2 W) hea (fun j hj => ?_) (fun x hx => ?_)
    · by_cases hj4 : j < (wlk n).length
      · have hj5 : (j : Int) < 4 ^ n := by
          rw [wlk_len] at hj4
          have : ((4 ^ n : Nat) : Int) = 4 ^ n := by rw [Int.natCast_pow]; rfl
          omega
        exact ⟨(hil n j).1, (hil n j).2, 0, fun W => rAt_ok n j W h1 h2 (by omega) hj5, fun h => ⟨wlk_at n j h, rfl⟩, fun e => by omega⟩
      · have hj5 : (4 : Int) ^ n ≤ (j : Int) := by
          rw [wlk_len] at hj4
          have : ((4 ^ n : Nat) : Int) = 4 ^ n := by rw [Int.natCast_pow]; rfl
          omega
        exact ⟨0, 0, 131, fun W => rAt_no n j W h1 h2 (.inr hj5), fun h => absurd h hj4, fun _ => by omega⟩
    · have hl : 0 < (wlk n).length := by rw [wlk_len]; exact Nat.pow_pos (by omega)
      have hx2 : x = (wlk n)[0]'hl := by rw [List.head?_eq_getElem?, List.getElem?_eq_getElem hl] at hx; exact (Option.some.inj hx).symm
      rw [hx2, wlk_at n 0 hl]
      exact hil_first n

set_option maxRecDepth 100000 in
theorem curveWalks_lifted (os : Os) (started : os.Started) (H : Type) (enc : TypeId × Value → H) :
    ReturnsInHanded {} Try.checked os 6 .any (Rows.curveWalksSpec.pre6 enc Try.prog Try.f6 Rows.curveWalksRow.domain false) (Rows.curveWalksSpec.post enc Try.prog Try.f6 false true false false) := by
  refine returnsInHanded_of_change (C := Try.checked) own started (by kernel_rfl) Try.func6
    (ChangeSpec.witness6 (enc := enc) (C := Try.checked) false ⟨#[], #[.int .i64 0, .int .i64 0], []⟩ 8 (by kernel_rfl) (by kernel_rfl) (by kernel_rfl) (by kernel_rfl)) ?_
  intro W base args ds gs before hval0 hW hcnd _
  have hval : ∀ (j : Nat) t v, Try.f6.params[j]? = some t → args[j]? = some v → Value.okWide Try.prog W .any base t v := hval0
  have hW' := hW
  obtain ⟨p, q, hA0, hV, rfl, hfz, hnd⟩ := hW
  have hA : DataW.TrodAll enc Try.prog W 0 (fun _ => true) true Try.f6.params.toList args.toList ds p := hA0
  rw [Try.params6] at hA hval
  obtain ⟨v0, vs0, d0, ds0, p0, q0, hargs, rfl, rfl, h0, r0⟩ := trodAll_cons hA
  obtain ⟨v1, vs1, d1, ds1, p1, q1, rfl, rfl, rfl, h1, r1⟩ := trodAll_cons r0
  obtain ⟨rfl, rfl, rfl⟩ := trodAll_nil r1
  obtain rfl : args = #[v0, v1] := by cases args; simp_all
  obtain ⟨rfl, rfl⟩ := trodVars_none hV
  have hlt0 : ∀ x ∈ p0, x.block < W.heap.size := fun x hx => by simpa using hW'.lt x (by simp [hx])
  obtain ⟨a0, rfl, _, _, w0⟩ := open_int Try.underlying3 (hval 0 3 v0 rfl rfl) h0
  have hlt1 : ∀ x ∈ p1, x.block < W.heap.size := fun x hx => by simpa using hW'.lt x (by simp [hx])
  obtain ⟨a1, rfl, _, _, w1⟩ := open_int Try.underlying3 (hval 1 3 v1 rfl rfl) h1
  clear hA0 hval0
  simp only [List.append_nil] at hW'
  refine (curveWalks_walk a0 (wf_sgn w0) a1 (wf_sgn w1) W ).mono fun e W' ⟨he, bel⟩ => ?_
  subst he
  exact ⟨_, rfl, _, _, _, [], _, [], hW', trodAll_mk1 (shut_bool Try.underlying4 _), (trodAll_cons_mk (Below.trod laidOut (by kernel_rfl) (of_decide_eq_true (by kernel_rfl)) h0 bel hlt0) (trodAll_cons_mk (Below.trod laidOut (by kernel_rfl) (of_decide_eq_true (by kernel_rfl)) h1 bel hlt1) trodAll_mk0)), rfl, bel.frame _, fun h => by cases h⟩

/-- The given statement. -/
theorem curveWalks_holds : Rows.CurveWalksSaid :=
  OpenClaim.holds_of_wide 6 Try.f6 rfl rfl rfl rfl rfl rfl rfl ⟨rfl, rfl, rfl, rfl, rfl⟩ rfl rfl rfl rfl rfl (by kernel_rfl) Try.func6 (by kernel_rfl)
    (of_decide_eq_true (by kernel_rfl)) (by unfold Func.isWrapper; first | (rw [if_pos (by decide +kernel)]; kernel_rfl) | (rw [if_neg (by decide +kernel)]; exact ⟨rfl, rfl⟩))
    (fun os started H enc _ => curveWalks_lifted os started H enc)
#print axioms curveWalks_holds
end Go.Proofs.Ytlfdlifmcabfjaa
