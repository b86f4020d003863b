/-
  What a trie holds, and how many nodes it has, does not hang on the order of the puts of unlike keys (P12.6); the examples of the document hold.
  Conditions: none; the law holds for every input.
-/
import Derived.Test.YtfbkjghipahipaaTrTA
import Derived.Test.YtfbkjghipahipaaTrTB
import Derived.Test.YtfbkjghipahipaaTrTC
import Derived.Test.YtfbkjghipahipaaTrFo
namespace Go.Proofs.Ytfbkjghipahipaa
open Go.ChangeShapes Go.WideShapes Go.ChangeAt Go.RowKit Go.Joins
set_option linter.unusedVariables false
set_option linter.unusedSimpArgs false

set_option maxRecDepth 20000 in
set_option maxHeartbeats 1000000 in
theorem trieTurned_walk (Wi : Int) (hWi : I64 Wi) (l : List Opx) (u : Value) (bd : ∀ R ∈ l, BdE R) (w : World) (hS : SrcV w u l) :
    Calls Try.prog 5 #[.int .i64 Wi, u] w fun e w' => e = .returned (.bool true) ∧ Below w.heap.size w w' := by
  obtain ⟨ad, cap, rfl, hc, _⟩ := id hS
  obtain ⟨N, hN⟩ : ∃ N, N = l.length := ⟨_, rfl⟩
  rw [← hN] at hS ⊢
  by_cases hw : Wi = 8 ∨ Wi = 16 ∨ Wi = 32
  · by_cases hl : N ≤ 4000
    · obtain ⟨Wd, hWd⟩ : ∃ Wd : Nat, Wi = (Wd : Int) := ⟨Wi.toNat, by omega⟩
      rcases hw with h | h | h
      · exact trieTurned_8 Wi Wd hWd l bd w ad N cap hN hl hS h
      · exact trieTurned_16 Wi Wd hWd l bd w ad N cap hN hl hS h
      · exact trieTurned_32 Wi Wd hWd l bd w ad N cap hN hl hS h
    · have hl' : (4000 : Int) < (N : Int) := by omega
      clear hS bd hN hl hc
      rcases hw with rfl | rfl | rfl
      · go_enter Try.func5, Try.ntmps5
        go_wp2_with (fail)
        refine (awakeC _).mono ?_
        rintro e WA ⟨rfl, hb⟩
        have HBA : Hid (Below w.heap.size w WA) := hb
        clear hb
        go_wp2_with (fail)
        go_ret
        exact ⟨rfl, HBA.out⟩
      · go_enter Try.func5, Try.ntmps5
        go_wp2_with (fail)
        refine (awakeC _).mono ?_
        rintro e WA ⟨rfl, hb⟩
        have HBA : Hid (Below w.heap.size w WA) := hb
        clear hb
        go_wp2_with (fail)
        go_ret
        exact ⟨rfl, HBA.out⟩
      · go_enter Try.func5, Try.ntmps5
        go_wp2_with (fail)
        refine (awakeC _).mono ?_
        rintro e WA ⟨rfl, hb⟩
        have HBA : Hid (Below w.heap.size w WA) := hb
        clear hb
        go_wp2_with (fail)
        go_ret
        exact ⟨rfl, HBA.out⟩
  · have h8 : ¬ Wi = 8 := fun q => hw (.inl q)
    have h16 : ¬ Wi = 16 := fun q => hw (.inr (.inl q))
    have h32 : ¬ Wi = 32 := fun q => hw (.inr (.inr q))
    clear hS bd hN hw hc
    go_enter Try.func5, Try.ntmps5
    go_wp2_with (fail)
    refine (awakeC _).mono ?_
    rintro e WA ⟨rfl, hb⟩
    have HBA : Hid (Below w.heap.size w WA) := hb
    clear hb
    go_wp2_with (fail)
    go_ret
    exact ⟨rfl, HBA.out⟩

set_option maxRecDepth 100000 in
theorem trieTurned_lifted (os : Os) (started : os.Started) (H : Type) (enc : TypeId × Value → H) :
    ReturnsInHanded {} Try.checked os 5 .any (Rows.trieTurnedSpec.pre6 enc Try.prog Try.f5 Rows.trieTurnedRow.domain false) (Rows.trieTurnedSpec.post enc Try.prog Try.f5 false true false false) := by
  refine returnsInHanded_of_change (C := Try.checked) own started (by kernel_rfl) Try.func5
    (ChangeSpec.witness6 (enc := enc) (C := Try.checked) false ⟨#[], #[.int .i64 0, .slice none 0 0], []⟩ 8 (by kernel_rfl) (by kernel_rfl) (by kernel_rfl) (by kernel_rfl)) ?_
  intro W base args ds gs before hval0 hW hcnd _
  have hval : ∀ (j : Nat) t v, Try.f5.params[j]? = some t → args[j]? = some v → Value.okWide Try.prog W .any base t v := hval0
  have hW' := hW
  obtain ⟨p, q, hA0, hV, rfl, hfz, hnd⟩ := hW
  have hA : DataW.TrodAll enc Try.prog W 0 (fun _ => true) true Try.f5.params.toList args.toList ds p := hA0
  rw [Try.params5] at hA hval
  obtain ⟨v0, vs0, d0, ds0, p0, q0, hargs, rfl, rfl, h0, r0⟩ := trodAll_cons hA
  obtain ⟨v1, vs1, d1, ds1, p1, q1, rfl, rfl, rfl, h1, r1⟩ := trodAll_cons r0
  obtain ⟨rfl, rfl, rfl⟩ := trodAll_nil r1
  obtain rfl : args = #[v0, v1] := by cases args; simp_all
  obtain ⟨rfl, rfl⟩ := trodVars_none hV
  have hlt0 : ∀ x ∈ p0, x.block < W.heap.size := fun x hx => by simpa using hW'.lt x (by simp [hx])
  obtain ⟨a0, rfl, _, _, w0⟩ := open_int Try.underlying3 (hval 0 3 v0 rfl rfl) h0
  have hlt1 : ∀ x ∈ p1, x.block < W.heap.size := fun x hx => by simpa using hW'.lt x (by simp [hx])
  obtain ⟨l1, s1, bd1⟩ := open_ens (hval 1 30 v1 rfl rfl) h1
  clear hA0 hval0
  simp only [List.append_nil] at hW'
  refine (trieTurned_walk a0 (wf_sgn w0) l1 v1 bd1 W s1).mono fun e W' ⟨he, bel⟩ => ?_
  subst he
  exact ⟨_, rfl, _, _, _, [], _, [], hW', trodAll_mk1 (shut_bool Try.underlying4 _), (trodAll_cons_mk (Below.trod laidOut (by kernel_rfl) (of_decide_eq_true (by kernel_rfl)) h0 bel hlt0) (trodAll_cons_mk (Below.trod laidOut (by kernel_rfl) (of_decide_eq_true (by kernel_rfl)) h1 bel hlt1) trodAll_mk0)), rfl, bel.frame _, fun h => by cases h⟩

/-- The given statement. -/
theorem trieTurned_holds : Rows.TrieTurnedSaid :=
  OpenClaim.holds_of_wide 5 Try.f5 rfl rfl rfl rfl rfl rfl rfl ⟨rfl, rfl, rfl, rfl, rfl⟩ rfl rfl rfl rfl rfl (by kernel_rfl) Try.func5 (by kernel_rfl)
    (of_decide_eq_true (by kernel_rfl)) (by unfold Func.isWrapper; first | (rw [if_pos (by decide +kernel)]; kernel_rfl) | (rw [if_neg (by decide +kernel)]; exact ⟨rfl, rfl⟩))
    (fun os started H enc _ => trieTurned_lifted os started H enc)
#print axioms trieTurned_holds
end Go.Proofs.Ytfbkjghipahipaa
