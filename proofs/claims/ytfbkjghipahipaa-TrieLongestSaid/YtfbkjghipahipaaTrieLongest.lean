/-
  Behind any puts and cuts: what Walk tells is held and in order, Above tells what is held and begins the key, Longest the last of these, and there are no more entries than nodes, no more nodes than the arena has (P12.4, P12.5); the examples of the document hold.
  Conditions: none; the law holds for every input.
-/
import Derived.Test.YtfbkjghipahipaaTrLA
import Derived.Test.YtfbkjghipahipaaTrLB
import Derived.Test.YtfbkjghipahipaaTrLC
import Derived.Test.YtfbkjghipahipaaTrFo
namespace Go.Proofs.Ytfbkjghipahipaa
open Go.ChangeShapes Go.WideShapes Go.ChangeAt Go.RowKit Go.Joins
set_option linter.unusedVariables false
set_option linter.unusedSimpArgs false

set_option maxRecDepth 20000 in
set_option maxHeartbeats 1000000 in
theorem trieLongest_walk (Wi : Int) (hWi : I64 Wi) (l : List Opx) (u : Value) (bd : ∀ R ∈ l, BdO R) (k : Nat) (hk : k < 4294967296) (w : World) (hS : SrcO w u l) :
    Calls Try.prog 4 #[.int .i64 Wi, u, .int .u32 (k : Int)] w fun e w' => e = .returned (.bool true) ∧ Below w.heap.size w w' := by
  obtain ⟨ad, cap, rfl, hc, _⟩ := id hS
  obtain ⟨N, hN⟩ : ∃ N, N = l.length := ⟨_, rfl⟩
  rw [← hN] at hS ⊢
  by_cases hw : Wi = 8 ∨ Wi = 16 ∨ Wi = 32
  · by_cases hl : N ≤ 16777216
    · have hl' : ¬ (16777216 : Int) < (N : Int) := by omega
      obtain ⟨Wd, hWd⟩ : ∃ Wd : Nat, Wi = (Wd : Int) := ⟨Wi.toNat, by omega⟩
      have hp : Calls Try.prog 10 #[.int .i64 Wi, .slice ad N cap] w fun e W' => ∃ t v L ar, e = .returned (.pointer (some ⟨t, 0, none⟩)) ∧ Own w W' t v Wd 1048576 L ar := by
        rw [hWd]
        exact own_played Wd (by unfold okN; exact decide_eq_true ⟨by omega, by omega, by omega⟩) l bd (by omega) _ w hS
      rcases hw with h | h | h
      · (subst h; obtain rfl : Wd = 8 := by omega); exact trieLongest_8 k hk w ad N cap hl' hp
      · (subst h; obtain rfl : Wd = 16 := by omega); exact trieLongest_16 k hk w ad N cap hl' hp
      · (subst h; obtain rfl : Wd = 32 := by omega); exact trieLongest_32 k hk w ad N cap hl' hp
    · have hl' : (16777216 : Int) < (N : Int) := by omega
      clear hS bd hN hl hc
      rcases hw with rfl | rfl | rfl
      · go_enter Try.func4, Try.ntmps4
        go_wp2_with (fail)
        refine (awakeC _).mono ?_
        rintro e WA ⟨rfl, hb⟩
        have HBA : Hid (Below w.heap.size w WA) := hb
        clear hb
        go_wp2_with (fail)
        go_ret
        exact ⟨rfl, HBA.out⟩
      · go_enter Try.func4, Try.ntmps4
        go_wp2_with (fail)
        refine (awakeC _).mono ?_
        rintro e WA ⟨rfl, hb⟩
        have HBA : Hid (Below w.heap.size w WA) := hb
        clear hb
        go_wp2_with (fail)
        go_ret
        exact ⟨rfl, HBA.out⟩
      · go_enter Try.func4, Try.ntmps4
        go_wp2_with (fail)
        refine (awakeC _).mono ?_
        rintro e WA ⟨rfl, hb⟩
        have HBA : Hid (Below w.heap.size w WA) := hb
        clear hb
        go_wp2_with (fail)
        go_ret
        exact ⟨rfl, HBA.out⟩
  · have h8 : ¬ Wi = 8 := fun q => hw (.inl q)
    have h16 : ¬ Wi = 16 := fun q => hw (.inr (.inl q))
    have h32 : ¬ Wi = 32 := fun q => hw (.inr (.inr q))
    clear hS bd hN hw hc
    go_enter Try.func4, Try.ntmps4
    go_wp2_with (fail)
    refine (awakeC _).mono ?_
    rintro e WA ⟨rfl, hb⟩
    have HBA : Hid (Below w.heap.size w WA) := hb
    clear hb
    go_wp2_with (fail)
    go_ret
    exact ⟨rfl, HBA.out⟩

set_option maxRecDepth 100000 in
theorem trieLongest_lifted (os : Os) (started : os.Started) (H : Type) (enc : TypeId × Value → H) :
    ReturnsInHanded {} Try.checked os 4 .any (Rows.trieLongestSpec.pre6 enc Try.prog Try.f4 Rows.trieLongestRow.domain false) (Rows.trieLongestSpec.post enc Try.prog Try.f4 false true false false) := by
  refine returnsInHanded_of_change (C := Try.checked) own started (by kernel_rfl) Try.func4
    (ChangeSpec.witness6 (enc := enc) (C := Try.checked) false ⟨#[], #[.int .i64 0, .slice none 0 0, .int .u32 0], []⟩ 8 (by kernel_rfl) (by kernel_rfl) (by kernel_rfl) (by kernel_rfl)) ?_
  intro W base args ds gs before hval0 hW hcnd _
  have hval : ∀ (j : Nat) t v, Try.f4.params[j]? = some t → args[j]? = some v → Value.okWide Try.prog W .any base t v := hval0
  have hW' := hW
  obtain ⟨p, q, hA0, hV, rfl, hfz, hnd⟩ := hW
  have hA : DataW.TrodAll enc Try.prog W 0 (fun _ => true) true Try.f4.params.toList args.toList ds p := hA0
  rw [Try.params4] at hA hval
  obtain ⟨v0, vs0, d0, ds0, p0, q0, hargs, rfl, rfl, h0, r0⟩ := trodAll_cons hA
  obtain ⟨v1, vs1, d1, ds1, p1, q1, rfl, rfl, rfl, h1, r1⟩ := trodAll_cons r0
  obtain ⟨v2, vs2, d2, ds2, p2, q2, rfl, rfl, rfl, h2, r2⟩ := trodAll_cons r1
  obtain ⟨rfl, rfl, rfl⟩ := trodAll_nil r2
  obtain rfl : args = #[v0, v1, v2] := by cases args; simp_all
  obtain ⟨rfl, rfl⟩ := trodVars_none hV
  have hlt0 : ∀ x ∈ p0, x.block < W.heap.size := fun x hx => by simpa using hW'.lt x (by simp [hx])
  obtain ⟨a0, rfl, _, _, w0⟩ := open_int Try.underlying3 (hval 0 3 v0 rfl rfl) h0
  have hlt1 : ∀ x ∈ p1, x.block < W.heap.size := fun x hx => by simpa using hW'.lt x (by simp [hx])
  obtain ⟨l1, s1, bd1⟩ := open_ops (hval 1 22 v1 rfl rfl) h1
  have hlt2 : ∀ x ∈ p2, x.block < W.heap.size := fun x hx => by simpa using hW'.lt x (by simp [hx])
  obtain ⟨a2, rfl, _, _, w2⟩ := open_int Try.underlying33 (hval 2 33 v2 rfl rfl) h2
  obtain ⟨b2, rfl, t2⟩ := wf_u32 w2
  clear hA0 hval0
  simp only [List.append_nil] at hW'
  refine (trieLongest_walk a0 (wf_sgn w0) l1 v1 bd1 b2 t2 W s1).mono fun e W' ⟨he, bel⟩ => ?_
  subst he
  exact ⟨_, rfl, _, _, _, [], _, [], hW', trodAll_mk1 (shut_bool Try.underlying4 _), (trodAll_cons_mk (Below.trod laidOut (by kernel_rfl) (of_decide_eq_true (by kernel_rfl)) h0 bel hlt0) (trodAll_cons_mk (Below.trod laidOut (by kernel_rfl) (of_decide_eq_true (by kernel_rfl)) h1 bel hlt1) (trodAll_cons_mk (Below.trod laidOut (by kernel_rfl) (of_decide_eq_true (by kernel_rfl)) h2 bel hlt2) trodAll_mk0))), rfl, bel.frame _, fun h => by cases h⟩

/-- The given statement. -/
theorem trieLongest_holds : Rows.TrieLongestSaid :=
  OpenClaim.holds_of_wide 4 Try.f4 rfl rfl rfl rfl rfl rfl rfl ⟨rfl, rfl, rfl, rfl, rfl⟩ rfl rfl rfl rfl rfl (by kernel_rfl) Try.func4 (by kernel_rfl)
    (of_decide_eq_true (by kernel_rfl)) (by unfold Func.isWrapper; first | (rw [if_pos (by decide +kernel)]; kernel_rfl) | (rw [if_neg (by decide +kernel)]; exact ⟨rfl, rfl⟩))
    (fun os started H enc _ => trieLongest_lifted os started H enc)
#print axioms trieLongest_holds
end Go.Proofs.Ytfbkjghipahipaa
