/-
  The document's Wrong; levels and what they say, for the laws.
-/
import Derived.Test.YtcjpjofoddpfhaaGreatNsAw
namespace Go.Proofs.YtcjpjofoddpfhaaGreat
open Go.RowKit
set_option linter.unusedVariables false
set_option linter.unusedSimpArgs false

set_option maxRecDepth 20000 in
set_option maxHeartbeats 1000000 in
theorem wrongC (l : List (Nat × Nat)) (v : Value) (w : World) (hs : SrcS w v l) (hl : l.length ≤ maxLen) :
    Calls Tryz.prog 28 #[v] w fun e w' => e = .returned (.bool (!okS l)) ∧ Below w.heap.size w w' := by
  have HS : Hid (SrcS w v l) := hs
  obtain ⟨ad, cap, rfl, _, _⟩ := hs
  obtain ⟨n, hn⟩ : ∃ n, n = l.length := ⟨_, rfl⟩
  rw [← hn] at HS hl ⊢
  have Hn : Hid (n = l.length) := hn
  have hnb : n ≤ 9223372036854775807 := by unfold maxLen at hl; omega
  clear hn hl
  obtain ⟨A, hA⟩ : ∃ A, A = (!okS l) := ⟨_, rfl⟩
  rw [← hA]
  have HA : Hid (A = !okS l) := hA
  clear hA
  go_enter Tryz.func28, Tryz.ntmps28
  go_wp2_with (fail)
  go_loopw [3] (fun vi wr => ∃ k : Nat, k ≤ n ∧ vi = .int .i64 (k : Int) ∧ Hid (∀ j (hj : j < l.length), j < k → (l[j]).1 ≤ (l[j]).2) ∧ Hid (Below w.heap.size w wr)) (fun vi _ => n - (intOf vi).toNat)
  case atStart => exact ⟨0, Nat.zero_le _, rfl, fun j _ hj => by omega, Below.refl _ _⟩
  case round =>
    obtain ⟨k, hk, rfl, HV, HB⟩ := hrel
    by_cases hlt : k < n
    · have hlt' : k < l.length := by rw [← Hn.out]; exact hlt
      have hlti : (k : Int) < (n : Int) := by omega
      obtain ⟨g, off, rfl, c0, c1⟩ := (srcS_at HS.out).2 HB.out k hlt'
      obtain ⟨s, hs⟩ : ∃ s, s = l[k] := ⟨_, rfl⟩
      rw [← hs] at c0 c1
      have Hs : Hid (s = l[k]) := hs
      clear hs
      by_cases hok : s.1 ≤ s.2
      · have hoki : ¬ (s.2 : Int) < (s.1 : Int) := by omega
        go_wp2_with (fail)
        go_quiet (fail)
        go_wp2_with (fail)
        go_roundw
        case rel => exact ⟨k + 1, by omega, by go_num, fun j hj hjk => by
          by_cases e : j = k
          · subst e; rw [← Hs.out]; exact hok
          · exact HV.out j hj (by omega), bel_drewN HB.out _⟩
        case measure => simp [intOf]; omega
      · have hoki : (s.2 : Int) < (s.1 : Int) := by omega
        have Hno : Hid (A = true) := by show A = true; rw [HA.out, okS_no hlt' (by rw [← Hs.out]; exact hok)]; rfl
        go_wp2_with (fail)
        go_quiet (fail)
        go_wp2_with (fail)
        go_ret
        exact ⟨ret_same Hno.out.symm, bel_drewN HB.out _⟩
    · obtain rfl : k = n := by omega
      have hni : ¬ (k : Int) < (k : Int) := by omega
      have Hyes : Hid (A = false) := by
        show A = false
        rw [HA.out]
        have : okS l = true := okS_iff.2 fun s hs => by
          obtain ⟨j, hj, rfl⟩ := List.mem_iff_getElem.1 hs
          exact HV.out j hj (by rw [Hn.out]; exact hj)
        rw [this]; rfl
      go_wp2
      go_ret
      exact ⟨ret_same Hyes.out.symm, HB.out⟩
theorem mt_port {a b : Nat × Nat} {p : Nat} (ha : hasI a p = true) (hb : hasI b p = true) : mt a b = true := by
  unfold hasI at *
  simp only [decide_eq_true_eq] at *
  exact mt_iff.2 ⟨by omega, by omega⟩
/-- What Find tells at a span's level. -/
theorem fnd_at {u l : List (Nat × Nat)} (hu : InO u) (hm : ∀ x, x ∈ u ↔ x ∈ l) {p i : Nat} (hi : i < l.length) (hp : hasI l[i] p = true) : ∃ k : Nat, ∃ hk : k < l.length, fstI (qF u l p (lvU u l[i])) l.length = (k : Int) ∧ k ≤ i ∧ l[k] = l[i] := by
  have hq : qF u l p (lvU u l[i]) i = true := by
    unfold qF
    have e : l.getD i (0, 0) = l[i] := by simp [hi]
    rw [e, hp]; simp
  rcases fstI_spec (qF u l p (lvU u l[i])) l.length with ⟨_, hno⟩ | ⟨k, e, hk, hqk, hall⟩
  · rw [hno i hi] at hq; cases hq
  · refine ⟨k, hk, e, ?_, ?_⟩
    · rcases Nat.lt_or_ge i k with h | h
      · rw [hall i h] at hq; cases hq
      · exact h
    · unfold qF at hqk
      have e2 : l.getD k (0, 0) = l[k] := by simp [hk]
      rw [e2] at hqk
      simp only [Bool.and_eq_true, decide_eq_true_eq] at hqk
      by_cases hne : l[k] = l[i]
      · exact hne
      · have := lv_apart (ino_nodup hu) ((hm _).2 (List.getElem_mem hk)) ((hm _).2 (List.getElem_mem hi)) hne hqk.1
        rw [mt_port hqk.2 hp] at this; cases this
end Go.Proofs.YtcjpjofoddpfhaaGreat
