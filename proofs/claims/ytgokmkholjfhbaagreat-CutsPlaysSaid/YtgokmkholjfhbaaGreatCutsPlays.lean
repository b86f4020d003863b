/-
 Whatever configuration, calls and headers are handed in: an engine of cuts does or refuses each call as the document's list would have it, for room just if the size is above the budget, and answers each header, twice alike, as the first match, within the document's bounds (P18.2 to P18.4); the examples of the document hold.
 Conditions: none; the law holds for every input.
-/
import Derived.Test.YtgokmkholjfhbaaGreatPkBX
import Derived.Test.YtgokmkholjfhbaaGreatPkBP
namespace Go.Proofs.YtgokmkholjfhbaaGreat
open Go.ChangeShapes Go.WideShapes Go.ChangeAt Go.RowKit Go.Joins
set_option linter.unusedVariables false
set_option linter.unusedSimpArgs false

theorem cutsPlays_walk (c : Cf) (bc : BdC c) (ops : List Opp) (sv : Value) (t1 : True) (hds : List Hd) (hv : Value) (t2 : True) (w : World) (s1 : SrcO w sv ops ∧ ∀ R ∈ ops, BdO w R) (s2 : SrcH w hv hds ∧ ∀ R ∈ hds, OkH R) :
  Calls Tryz.prog 4 #[.agg #[.int .i64 c.m, .int .i64 c.a, .int .i64 c.p, .int .i64 c.g, .int .i64 c.t, .int .i64 c.b, .int .i64 c.d], sv, hv] w fun e w' => e = .returned (.bool true) ∧ Below w.heap.size w w' :=
 playsC c bc sv hv ops hds w s1.1 s1.2 s2.1 s2.2

set_option maxRecDepth 100000 in
theorem cutsPlays_lifted (os : Os) (started : os.Started) (H : Type) (enc : TypeId × Value → H) :
  ReturnsInHanded {} Tryz.checked os 4 .any (Rows.cutsPlaysSpec.pre6 enc Tryz.prog Tryz.f4 Rows.cutsPlaysRow.domain false) (Rows.cutsPlaysSpec.post enc Tryz.prog Tryz.f4 false true false false) := by
 refine returnsInHanded_of_change (C := Tryz.checked) own started (by kernel_rfl) Tryz.func4
  (ChangeSpec.witness6 (enc := enc) (C := Tryz.checked) false ⟨#[], #[.agg #[.int .i64 0, .int .i64 0, .int .i64 0, .int .i64 0, .int .i64 0, .int .i64 0, .int .i64 0], .slice none 0 0, .slice none 0 0], []⟩ 8 (by kernel_rfl) (by kernel_rfl) (by kernel_rfl) (by kernel_rfl)) ?_
 intro W base args ds gs before hval0 hW hcnd _
 have hval : ∀ (j : Nat) t v, Tryz.f4.params[j]? = some t → args[j]? = some v → Value.okWide Tryz.prog W .any base t v := hval0
 have hW' := hW
 obtain ⟨p, q, hA0, hV, rfl, hfz, hnd⟩ := hW
 have hA : DataW.TrodAll enc Tryz.prog W 0 (fun _ => true) true Tryz.f4.params.toList args.toList ds p := hA0
 rw [Tryz.params4] at hA hval
 obtain ⟨v0, vs0, d0, ds0, p0, q0, hargs, rfl, rfl, h0, r0⟩ := trodAll_cons hA
 obtain ⟨v1, vs1, d1, ds1, p1, q1, rfl, rfl, rfl, h1, r1⟩ := trodAll_cons r0
 obtain ⟨v2, vs2, d2, ds2, p2, q2, rfl, rfl, rfl, h2, r2⟩ := trodAll_cons r1
 obtain ⟨rfl, rfl, rfl⟩ := trodAll_nil r2
 obtain rfl : args = #[v0, v1, v2] := by cases args; simp_all
 obtain ⟨rfl, rfl⟩ := trodVars_none hV
 have hlt0 : ∀ x ∈ p0, x.block < W.heap.size := fun x hx => by simpa using hW'.lt x (by simp [hx])
 obtain ⟨g0, rfl, o0⟩ := open_cf (hval 0 24 v0 rfl rfl) h0
 have hlt1 : ∀ x ∈ p1, x.block < W.heap.size := fun x hx => by simpa using hW'.lt x (by simp [hx])
 obtain ⟨l1, s1, bd1⟩ := open_ops (hval 1 46 v1 rfl rfl) h1
 have hlt2 : ∀ x ∈ p2, x.block < W.heap.size := fun x hx => by simpa using hW'.lt x (by simp [hx])
 obtain ⟨l2, s2, bd2⟩ := open_hds (hval 2 47 v2 rfl rfl) h2
 clear hA0 hval0
 simp only [List.append_nil] at hW'
 refine (cutsPlays_walk g0 o0 l1 v1 bd1 l2 v2 bd2 W s1 s2).mono fun e W' ⟨he, bel⟩ => ?_
 subst he
 exact ⟨_, rfl, _, _, _, [], _, [], hW', trodAll_mk1 (shut_bool Tryz.underlying4 _), (trodAll_cons_mk (Below.trod laidOut (by kernel_rfl) (of_decide_eq_true (by kernel_rfl)) h0 bel hlt0) (trodAll_cons_mk (Below.trod laidOut (by kernel_rfl) (of_decide_eq_true (by kernel_rfl)) h1 bel hlt1) (trodAll_cons_mk (Below.trod laidOut (by kernel_rfl) (of_decide_eq_true (by kernel_rfl)) h2 bel hlt2) trodAll_mk0))), rfl, bel.frame _, fun h => by cases h⟩

/-- The given statement. -/
theorem cutsPlays_holds : Rows.CutsPlaysSaid :=
 OpenClaim.holds_of_wide 4 Tryz.f4 rfl rfl rfl rfl rfl rfl rfl ⟨rfl, rfl, rfl, rfl, rfl⟩ rfl rfl rfl rfl rfl (by kernel_rfl) Tryz.func4 (by kernel_rfl)
  (of_decide_eq_true (by kernel_rfl)) (by unfold Func.isWrapper; first | (rw [if_pos (by decide +kernel)]; kernel_rfl) | (rw [if_neg (by decide +kernel)]; exact ⟨rfl, rfl⟩))
  (fun os started H enc _ => cutsPlays_lifted os started H enc)
#print axioms cutsPlays_holds
end Go.Proofs.YtgokmkholjfhbaaGreat
