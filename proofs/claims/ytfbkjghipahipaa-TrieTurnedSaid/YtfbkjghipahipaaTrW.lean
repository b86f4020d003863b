/-
  New, Nodes, Arena, Above, Walk; a trie that is none; Right.
-/
import Derived.Test.YtfbkjghipahipaaTrV
namespace Go.Proofs.Ytfbkjghipahipaa
open Go.RowKit Go.Shelf
set_option linter.unusedVariables false
set_option linter.unusedSimpArgs false
attribute [local go_sem] Oper.semAt_some

/-- May there be such a trie? -/
def okN (W M : Int) : Bool := decide ((W = 8 ∨ W = 16 ∨ W = 32) ∧ 0 ≤ M ∧ M ≤ 1048576)
theorem tr_new (W M : Nat) (w : World) : Tr (w.alloc (.cells #[.int .i64 (W : Int), .int .i64 (M : Int), .slice none 0 0, .int .i64 0, .int .i64 0, .int .i64 0] 58)) w.heap.size (.slice none 0 0) W M [] 0 :=
  ⟨[], 0, 0, 0, ⟨blk_new w _, ⟨rfl, .inl ⟨rfl, rfl⟩⟩, fun e => by cases e⟩, inv_new W M, rfl⟩
set_option maxHeartbeats 2000000 in
theorem rightC (W M : Int) (w : World) : Calls Try.prog 7 #[.int .i64 W, .int .i64 M] w fun e w' => e = .returned (.bool (okN W M)) ∧ w' = w := by
  unfold okN
  by_cases h1 : W = 8
  · subst h1
    by_cases h2 : 0 ≤ M
    · by_cases h3 : M ≤ 1048576
      · go_enter Try.func7, Try.ntmps7
        go_wp2
        go_ret
        exact ⟨by simp [h2, h3], rfl⟩
      · go_enter Try.func7, Try.ntmps7
        go_wp2
        go_ret
        exact ⟨by simp [h2, h3], rfl⟩
    · go_enter Try.func7, Try.ntmps7
      go_wp2
      go_ret
      exact ⟨ret_same (by simp; omega), rfl⟩
  · by_cases h1b : W = 16
    · subst h1b
      by_cases h2 : 0 ≤ M
      · by_cases h3 : M ≤ 1048576
        · go_enter Try.func7, Try.ntmps7
          go_wp2
          go_ret
          exact ⟨by simp [h2, h3], rfl⟩
        · go_enter Try.func7, Try.ntmps7
          go_wp2
          go_ret
          exact ⟨by simp [h2, h3], rfl⟩
      · go_enter Try.func7, Try.ntmps7
        go_wp2
        go_ret
        exact ⟨ret_same (by simp; omega), rfl⟩
    · by_cases h1c : W = 32
      · subst h1c
        by_cases h2 : 0 ≤ M
        · by_cases h3 : M ≤ 1048576
          · go_enter Try.func7, Try.ntmps7
            go_wp2
            go_ret
            exact ⟨by simp [h2, h3], rfl⟩
          · go_enter Try.func7, Try.ntmps7
            go_wp2
            go_ret
            exact ⟨by simp [h2, h3], rfl⟩
        · go_enter Try.func7, Try.ntmps7
          go_wp2
          go_ret
          exact ⟨ret_same (by simp; omega), rfl⟩
      · go_enter Try.func7, Try.ntmps7
        go_wp2
        go_ret
        exact ⟨by simp [h1, h1b, h1c], rfl⟩
set_option maxHeartbeats 2000000 in
theorem new_no (W M : Int) (h : okN W M = false) (w : World) : Calls Try.prog 6 #[.int .i64 W, .int .i64 M] w fun e w' => e = .returned (.tuple #[.pointer none, .int .i64 1]) ∧ w' = w := by
  unfold okN at h
  have h := of_decide_eq_false h
  by_cases h1 : W = 8 ∨ W = 16 ∨ W = 32
  · have h2 : ¬ (0 ≤ M ∧ M ≤ 1048576) := fun q => h ⟨h1, q⟩
    clear h
    rcases h1 with rfl | rfl | rfl
    all_goals (
      by_cases h3 : M < 0
      · clear h2
        go_enter Try.func6, Try.ntmps6
        go_wp2
        go_ret2
        exact ⟨rfl, rfl⟩
      · have h4 : M > 1048576 := by omega
        clear h2
        go_enter Try.func6, Try.ntmps6
        go_wp2
        go_ret2
        exact ⟨rfl, rfl⟩)
  · have h2 : ¬ W = 8 := fun q => h1 (.inl q)
    have h3 : ¬ W = 16 := fun q => h1 (.inr (.inl q))
    have h4 : ¬ W = 32 := fun q => h1 (.inr (.inr q))
    clear h h1
    go_enter Try.func6, Try.ntmps6
    go_wp2
    go_ret2
    exact ⟨rfl, rfl⟩
set_option maxHeartbeats 2000000 in
theorem new_yes (W M : Nat) (h : okN W M = true) (w : World) : Calls Try.prog 6 #[.int .i64 (W : Int), .int .i64 (M : Int)] w fun e w' => e = .returned (.tuple #[.pointer (some ⟨w.heap.size, 0, none⟩), .int .i64 0]) ∧ Tr w' w.heap.size (.slice none 0 0) W M [] 0 ∧ Below w.heap.size w w' := by
  unfold okN at h
  obtain ⟨h1, h2, h3⟩ := of_decide_eq_true h
  have HT := tr_new W M w
  have HB : Below w.heap.size w (w.alloc (.cells #[.int .i64 (W : Int), .int .i64 (M : Int), .slice none 0 0, .int .i64 0, .int .i64 0, .int .i64 0] 58)) := (Below.refl _ _).alloc (Nat.le_refl _) _
  have HT' : Hid (Tr (w.alloc (.cells #[.int .i64 (W : Int), .int .i64 (M : Int), .slice none 0 0, .int .i64 0, .int .i64 0, .int .i64 0] 58)) w.heap.size (.slice none 0 0) W M [] 0) := HT
  have HB' : Hid (Below w.heap.size w (w.alloc (.cells #[.int .i64 (W : Int), .int .i64 (M : Int), .slice none 0 0, .int .i64 0, .int .i64 0, .int .i64 0] 58))) := HB
  clear HT HB h
  obtain ⟨Wi, hWi⟩ : ∃ Wi : Int, Wi = (W : Int) := ⟨_, rfl⟩
  rw [← hWi] at h1 HT' HB'
  rw [← hWi]
  clear hWi
  rcases h1 with rfl | rfl | rfl
  · go_enter Try.func6, Try.ntmps6
    go_wp2
    go_ret2
    exact ⟨rfl, HT'.out, HB'.out⟩
  · go_enter Try.func6, Try.ntmps6
    go_wp2
    go_ret2
    exact ⟨rfl, HT'.out, HB'.out⟩
  · go_enter Try.func6, Try.ntmps6
    go_wp2
    go_ret2
    exact ⟨rfl, HT'.out, HB'.out⟩
theorem nodesC (t : Nat) (v : Value) (W M : Nat) (L : List En) (ar : Nat) (w : World) (h : Tr w t v W M L ar) : Calls Try.prog 16 #[.pointer (some ⟨t, 0, none⟩)] w fun e w' => e = .returned (.int .i64 (cntL W 0 none L : Int)) ∧ w' = w := by
  obtain ⟨A, r, f, c, h1, h2, rfl⟩ := h
  rw [← h2.cnt]
  obtain ⟨y0, y1, y2, y3, y4, y5⟩ := blk6 h1.1
  clear h1 h2
  go_enter Try.func16, Try.ntmps16
  go_wp2
  go_ret
  exact ⟨rfl, rfl⟩
theorem arenaC (t : Nat) (v : Value) (W M : Nat) (L : List En) (ar : Nat) (w : World) (h : Tr w t v W M L ar) : Calls Try.prog 17 #[.pointer (some ⟨t, 0, none⟩)] w fun e w' => e = .returned (.int .i64 (ar : Int)) ∧ w' = w := by
  obtain ⟨A, r, f, c, h1, h2, rfl⟩ := h
  obtain ⟨y0, y1, y2, y3, y4, y5⟩ := blk6 h1.1
  obtain ⟨ad, cap, rfl, hcap, _⟩ := h1.2.1.form
  clear h1 h2
  go_enter Try.func17, Try.ntmps17
  go_wp2
  go_ret
  exact ⟨rfl, rfl⟩
theorem nodes_nil (w : World) : Calls Try.prog 16 #[.pointer none] w fun e w' => e = .returned (.int .i64 0) ∧ w' = w := by
  go_enter Try.func16, Try.ntmps16
  go_wp2
  go_ret
  exact ⟨rfl, rfl⟩
theorem arena_nil (w : World) : Calls Try.prog 17 #[.pointer none] w fun e w' => e = .returned (.int .i64 0) ∧ w' = w := by
  go_enter Try.func17, Try.ntmps17
  go_wp2
  go_ret
  exact ⟨rfl, rfl⟩
theorem put_nil (k : Nat) (n v : Int) (w : World) : Calls Try.prog 19 #[.pointer none, .int .u32 (k : Int), .int .i64 n, .int .i64 v] w fun e w' => e = .returned (.int .i64 3) ∧ w' = w := by
  go_enter Try.func19, Try.ntmps19
  go_wp2
  go_ret
  exact ⟨rfl, rfl⟩
theorem cut_nil (k : Nat) (n : Int) (w : World) : Calls Try.prog 20 #[.pointer none, .int .u32 (k : Int), .int .i64 n] w fun e w' => e = .returned (.int .i64 3) ∧ w' = w := by
  go_enter Try.func20, Try.ntmps20
  go_wp2
  go_ret
  exact ⟨rfl, rfl⟩
theorem aboveC (p : Option Addr) (k : Nat) (n : Int) (w : World) :
    Calls Try.prog 13 #[.pointer p, .int .u32 (k : Int), .int .i64 n] w fun e w' => e = .returned (.func (.func 29) #[] #[.pointer (some ⟨w.heap.size, 0, none⟩), .pointer (some ⟨w.heap.size + 1, 0, none⟩), .pointer (some ⟨w.heap.size + 1 + 1, 0, none⟩)]) ∧
      w' = ((w.alloc (.cells #[.pointer p] 23)).alloc (.cells #[.int .u32 (k : Int)] 33)).alloc (.cells #[.int .i64 n] 3) := by
  go_enter Try.func13, Try.ntmps13
  go_wp2
  go_ret
  exact ⟨rfl, rfl⟩
theorem walkC (p : Option Addr) (w : World) :
    Calls Try.prog 12 #[.pointer p] w fun e w' => e = .returned (.func (.func 27) #[] #[.pointer (some ⟨w.heap.size, 0, none⟩)]) ∧ w' = w.alloc (.cells #[.pointer p] 23) := by
  go_enter Try.func12, Try.ntmps12
  go_wp2
  go_ret
  exact ⟨rfl, rfl⟩
end Go.Proofs.Ytfbkjghipahipaa
