/-
  The document's ahead, meet and unlike.
-/
import Derived.Test.YtcjpjofoddpfhaaGreatNsAw
namespace Go.Proofs.YtcjpjofoddpfhaaGreat
open Go.RowKit
set_option linter.unusedVariables false
set_option linter.unusedSimpArgs false

def ahB (a b : Nat × Nat) : Bool := decide (a.1 < b.1) || (decide (a.1 = b.1) && decide (b.2 < a.2))
theorem ahB_iff {a b : Nat × Nat} : ahB a b = true ↔ ahd a b := by unfold ahB ahd; simp
theorem raheadC (x y : Nat × Nat) (w : World) :
    Calls Tryz.prog 54 #[.agg #[.int .u16 (x.1), .int .u16 (x.2)], .agg #[.int .u16 (y.1), .int .u16 (y.2)]] w fun e w' => e = .returned (.bool (ahB x y)) ∧ Below w.heap.size w w' := by
  obtain ⟨a, b⟩ := x
  obtain ⟨c, d⟩ := y
  show Calls Tryz.prog 54 #[.agg #[.int .u16 a, .int .u16 b], .agg #[.int .u16 c, .int .u16 d]] w _
  have hv : ahB (a, b) (c, d) = (decide (a < c) || (decide (a = c) && decide (d < b))) := rfl
  rw [hv]
  clear hv
  by_cases h1 : a < c
  · rw [decide_eq_true h1]
    have h1i : (a : Int) < (c : Int) := by omega
    go_enter Tryz.func54, Tryz.ntmps54
    go_wp2
    go_ret
    exact ⟨by simp, ((Below.refl _ _).alloc (Nat.le_refl _) _).alloc (by simp) _⟩
  · rw [decide_eq_false h1]
    have h1i : ¬ (a : Int) < (c : Int) := by omega
    by_cases h2 : a = c
    · subst h2
      by_cases h3 : d < b
      · rw [decide_eq_true h3]
        have h3i : (d : Int) < (b : Int) := by omega
        go_enter Tryz.func54, Tryz.ntmps54
        go_wp2
        go_ret
        exact ⟨by simp, ((Below.refl _ _).alloc (Nat.le_refl _) _).alloc (by simp) _⟩
      · rw [decide_eq_false h3]
        have h3i : ¬ (d : Int) < (b : Int) := by omega
        go_enter Tryz.func54, Tryz.ntmps54
        go_wp2
        go_ret
        exact ⟨by simp, ((Below.refl _ _).alloc (Nat.le_refl _) _).alloc (by simp) _⟩
    · rw [decide_eq_false h2]
      have h2b : ((a : Int) == (c : Int)) = false := by simp; omega
      go_enter Tryz.func54, Tryz.ntmps54
      go_wp2
      go_ret
      exact ⟨by simp, ((Below.refl _ _).alloc (Nat.le_refl _) _).alloc (by simp) _⟩
theorem rmeetC (x y : Nat × Nat) (w : World) :
    Calls Tryz.prog 55 #[.agg #[.int .u16 (x.1), .int .u16 (x.2)], .agg #[.int .u16 (y.1), .int .u16 (y.2)]] w fun e w' => e = .returned (.bool (mt x y)) ∧ Below w.heap.size w w' := by
  obtain ⟨a, b⟩ := x
  obtain ⟨c, d⟩ := y
  show Calls Tryz.prog 55 #[.agg #[.int .u16 a, .int .u16 b], .agg #[.int .u16 c, .int .u16 d]] w _
  have hv : mt (a, b) (c, d) = (decide (a ≤ d) && decide (c ≤ b)) := rfl
  rw [hv]
  clear hv
  by_cases h1 : a ≤ d
  · rw [decide_eq_true h1]
    have h1i : (a : Int) ≤ (d : Int) := by omega
    by_cases h3 : c ≤ b
    · rw [decide_eq_true h3]
      have h3i : (c : Int) ≤ (b : Int) := by omega
      go_enter Tryz.func55, Tryz.ntmps55
      go_wp2
      go_ret
      exact ⟨by simp, ((Below.refl _ _).alloc (Nat.le_refl _) _).alloc (by simp) _⟩
    · rw [decide_eq_false h3]
      have h3i : ¬ (c : Int) ≤ (b : Int) := by omega
      go_enter Tryz.func55, Tryz.ntmps55
      go_wp2
      go_ret
      exact ⟨by simp, ((Below.refl _ _).alloc (Nat.le_refl _) _).alloc (by simp) _⟩
  · rw [decide_eq_false h1]
    have h1i : ¬ (a : Int) ≤ (d : Int) := by omega
    go_enter Tryz.func55, Tryz.ntmps55
    go_wp2
    go_ret
    exact ⟨by simp, ((Below.refl _ _).alloc (Nat.le_refl _) _).alloc (by simp) _⟩
/-- One more, at its place. -/
def insS (u : List (Nat × Nat)) (k : Nat) (s : Nat × Nat) : List (Nat × Nat) := u.take k ++ [s] ++ u.drop k
theorem insS_ino {u : List (Nat × Nat)} (h : InO u) {k : Nat} {s : Nat × Nat} (hk : k ≤ u.length) (h1 : ∀ j (hj : j < u.length), j < k → ahd u[j] s) (h2 : ∀ hk : k < u.length, ahd s u[k]) : InO (insS u k s) := by
  unfold InO insS
  rw [List.append_assoc, List.pairwise_append]
  refine ⟨h.sublist (List.take_sublist _ _), ?_, fun a ha b hb => ?_⟩
  · rw [List.singleton_append, List.pairwise_cons]
    refine ⟨fun b hb => ?_, h.sublist (List.drop_sublist _ _)⟩
    obtain ⟨j, hj, rfl⟩ := List.mem_iff_getElem.1 hb
    rw [List.length_drop] at hj
    rw [List.getElem_drop]
    have hk' : k < u.length := by omega
    by_cases e : j = 0
    · subst e; exact h2 hk'
    · exact ahd_trans (h2 hk') (List.pairwise_iff_getElem.1 h k (k + j) hk' (by omega) (by omega))
  · obtain ⟨i, hi, rfl⟩ := List.mem_iff_getElem.1 ha
    rw [List.length_take] at hi
    rw [List.getElem_take]
    rw [List.singleton_append] at hb
    rcases List.mem_cons.1 hb with rfl | hb
    · exact h1 i (by omega) (by omega)
    · obtain ⟨j, hj, rfl⟩ := List.mem_iff_getElem.1 hb
      rw [List.length_drop] at hj
      rw [List.getElem_drop]
      exact List.pairwise_iff_getElem.1 h i (k + j) (by omega) (by omega) (by omega)
theorem insS_mem {u : List (Nat × Nat)} {k : Nat} {s x : Nat × Nat} : x ∈ insS u k s ↔ x = s ∨ x ∈ u := by
  unfold insS
  rw [List.mem_append, List.mem_append, List.mem_singleton]
  have : x ∈ u ↔ x ∈ u.take k ∨ x ∈ u.drop k := by rw [← List.mem_append, List.take_append_drop]
  rw [this]
  constructor
  · rintro ((h | h) | h)
    · exact .inr (.inl h)
    · exact .inl h
    · exact .inr (.inr h)
  · rintro (h | h | h)
    · exact .inl (.inr h)
    · exact .inl (.inl h)
    · exact .inr h
theorem insS_put {u : List (Nat × Nat)} {j : Nat} (hj : j ≤ u.length) (x s : Nat × Nat) : (insS u j x).take j ++ [s] ++ (insS u j x).drop (j + [s].length) = insS u j s := by
  unfold insS
  have hl : (u.take j).length = j := by rw [List.length_take]; omega
  rw [List.append_assoc (u.take j) [x], List.take_append_of_le_length (by omega), List.take_of_length_le (by omega), List.drop_append, hl]
  rw [List.drop_of_length_le (by rw [hl]; simp)]
  simp
theorem insS_down {u : List (Nat × Nat)} {j : Nat} (hj : j < u.length) : insS u (j + 1) u[j] = insS u j u[j] := by
  unfold insS
  rw [take_at hj, List.drop_eq_getElem_cons hj]
  simp
theorem insS_len {u : List (Nat × Nat)} {j : Nat} (hj : j ≤ u.length) (x : Nat × Nat) : (insS u j x).length = u.length + 1 := by
  unfold insS; simp; omega
theorem insS_at {u : List (Nat × Nat)} {j : Nat} (hj : j < u.length) (x : Nat × Nat) (h : j < (insS u (j + 1) x).length) : (insS u (j + 1) x)[j] = u[j] := by
  unfold insS
  simp only [List.append_assoc]
  rw [List.getElem_append_left (by rw [List.length_take]; omega), List.getElem_take]
end Go.Proofs.YtcjpjofoddpfhaaGreat
