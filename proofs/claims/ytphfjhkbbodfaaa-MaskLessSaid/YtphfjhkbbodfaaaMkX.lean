/-
  The statements' own helpers: same (of two lists that hold the same masks), spoil (it writes over the list that it is handed, and behind it; all other memory stays).
-/
import Derived.Test.YtphfjhkbbodfaaaMkU
import Derived.Deep.AppendLies
namespace Go.Proofs.Ytphfjhkbbodfaaa
open Go.RowKit
set_option linter.unusedVariables false
set_option linter.unusedSimpArgs false

set_option maxHeartbeats 1000000 in
theorem same_eq (l : List (Nat × Nat)) (hl : l.length ≤ 4294967296) (v u : Value) (b c : Nat) (w : World) (h1 : Row w b v l) (h2 : Row w c u l) :
    Calls Try.prog 24 #[v, u] w fun e w' => e = .returned (.bool true) ∧ Below w.heap.size w w' := by
  obtain ⟨a1, cap1, rfl, _, f1⟩ := h1.form
  obtain ⟨a2, cap2, rfl, _, f2⟩ := h2.form
  clear h1 h2
  go_enter Try.func24, Try.ntmps24
  go_wp2
  go_loopw [5] (fun i wr => ∃ k d : Nat, k ≤ l.length ∧ i = .int .i64 k ∧ wr = w.drewN d) (fun i _ => l.length - (intOf i).toNat)
  case atStart => exact ⟨0, 0, Nat.zero_le _, rfl, rfl⟩
  case round =>
    obtain ⟨k, d, hk, rfl, rfl⟩ := hrel
    by_cases hlt : k < l.length
    · obtain ⟨g1, rfl, _, _, c1⟩ := f1 (by omega)
      obtain ⟨g2, rfl, _, _, c2⟩ := f2 (by omega)
      obtain ⟨p, hp⟩ : ∃ p, p = l[k] := ⟨_, rfl⟩
      obtain ⟨x1, y1⟩ := c1 k hlt
      obtain ⟨x2, y2⟩ := c2 k hlt
      rw [← hp] at x1 y1 x2 y2
      clear c1 c2 f1 f2 hp
      have hlt' : (k : Int) < (l.length : Int) := by omega
      have hk0 : (0 : Int) ≤ (k : Int) := by omega
      go_wp2
      go_quiet (fail)
      go_wp2
      go_roundw
      case rel => exact ⟨k + 1, _, by omega, by go_num, rfl⟩
      case measure => simp [intOf]; omega
    · go_wp2
      go_ret
      exact ⟨rfl, by (repeat (first | assumption | exact Below.refl _ _ | refine Below.drew ?_ | refine bel_drewN ?_ _ | refine Below.setCell ?_ (by first | omega | (simp; done) | (simp; omega)) _ | refine Below.alloc ?_ (by first | omega | (simp; done) | (simp; omega)) _ | refine bel_of ?_ (by assumption)))⟩
theorem two_one : ∀ u ∈ [Value.int .u8 0, Value.int .u8 79], u.oneCell' = true := by
  intro u hu
  simp only [List.mem_cons, List.not_mem_nil, or_false] at hu
  rcases hu with rfl | rfl <;> rfl
theorem grown_set {w wr : World} {row : Option Nat} (h : w.grownBy wr row) {a : Addr} (ha : some a.block = row ∨ w.heap.size ≤ a.block) (u : Value) : w.grownBy (wr.setCell a u) row :=
  ⟨h.os, h.tape, h.output, by have := h.size; simpa [World.setCell] using this, fun k hk hne => by
    rw [Below.heap_setCell _ _ _ _ (by
      rcases ha with ha | ha
      · intro e; exact hne (by rw [e]; exact ha)
      · omega)]
    exact h.block k hk hne⟩
theorem grown_last {w wr wa w5 : World} {row : Option Nat} {g' n cap : Nat} {j : Nat} {u : Value} (h : w.grownBy wr row) (h2 : wr.grownBy wa row) (h3 : wa.grownBy w5 row)
    (hat : Value.ownBlock (.slice (some ⟨g', 0, none⟩) n cap) = row ∨ Value.ownBlock (.slice (some ⟨g', 0, none⟩) n cap) = some wa.heap.size) : w.grownBy (w5.setCell ⟨g', j, none⟩ u) row := by
  refine grown_set ((h.trans h2).trans h3) ?_ u
  rcases hat with hat | hat
  · exact .inl hat
  · right
    have e : g' = wa.heap.size := by simpa [Value.ownBlock] using hat
    have h4 := h.size
    have h5 := h2.size
    show w.heap.size ≤ g'
    omega
set_option maxHeartbeats 2000000 in
theorem spoil_any (l : List (Nat × Nat)) (hl : l.length ≤ 4294967296) (v : Value) (b : Nat) (w : World) (h : Row w b v l) (hb : b ≤ w.heap.size) :
    Calls Try.prog 25 #[v] w fun e w' => e = .returned (.tuple #[]) ∧ w.grownBy w' v.ownBlock := by
  obtain ⟨i0, hi, hz0, hz1, hz2⟩ := info_parts info_mk
  obtain ⟨n, hn⟩ : ∃ n, n = l.length := ⟨_, rfl⟩
  obtain ⟨xs, hxs⟩ : ∃ xs, xs = flat l := ⟨_, rfl⟩
  have h' : w.ownsRow b 23 2 v n xs := by rw [hn, hxs]; exact h
  have hgr0 : w.grownBy w v.ownBlock := ⟨rfl, rfl, rfl, Nat.le_refl _, fun _ _ _ => rfl⟩
  rw [← hn] at hl
  clear h hn hxs
  rcases h'.2 with ⟨rfl, rfl⟩ | ⟨g, cap, cur, rfl, hg, hh, r⟩
  · go_enter Try.func25, Try.ntmps25
    go_wp2
    go_loop [2] (fun i => i = .int .i64 0) (fun _ => 0)
    case atStart => rfl
    case round =>
      obtain rfl := hrel
      go_wp2_with (at_builtin; refine wpList_append_own_at _ rfl (.tmp 14) (.tmp 16) 38 rfl b 23 i0 (.agg #[.int .u8 0, .int .u8 0]) 2 2 Try.underlying38 hi hz0 hz1 hz2 rfl (by decide) _ 0 xs rfl (h'.alloc _) ⟨w.heap.size, 0, none⟩ 1 1 [.int .u8 0, .int .u8 79] rfl rfl (World.news_of_block (heap_alloc_new w _)) two_one (by unfold maxLen; omega) (by omega) (by have := hgr0.size; simp; omega) ?_; intro v' w5 hown' hg5 _ hat; obtain ⟨g', cap', rfl, hb', hlt'⟩ := hown'.form (by omega); have hc5 : w5.cell? ⟨g', 0 * 2 + 1, none⟩ = some (.int .u8 79) := (by rw [hown'.cellAt (0 * 2 + 1) (by omega), List.getElem?_append_right (by rw [h'.1]; omega), h'.1]; simp); have hf5 := hown'.frozenAt (0 * 2 + 1))
      go_end0
      refine ⟨rfl, ?_⟩
      refine grown_last hgr0 (World.grownBy_alloc _ _ _) hg5 hat
  · clear hh r hg
    go_enter Try.func25, Try.ntmps25
    go_wp2
    go_loopw [2] (fun i wr => ∃ (k : Nat) (ys : List Value), k ≤ n ∧ i = .int .i64 k ∧ Hid (wr.ownsRow b 23 2 (.slice (some ⟨g, 0, none⟩) n cap) n ys) ∧ Hid (w.grownBy wr (some g))) (fun i _ => n - (intOf i).toNat)
    case atStart => exact ⟨0, xs, Nat.zero_le _, rfl, h', hgr0⟩
    case round =>
      obtain ⟨k, ys, hk, rfl, ho, hgr⟩ := hrel
      by_cases hlt : k < n
      · have hlt' : (k : Int) < (n : Int) := by omega
        have hk0 : (0 : Int) ≤ (k : Int) := by omega
        have hy := ho.out.1
        have e0 : k * 2 < ys.length := by omega
        have e1 : k * 2 + 1 < ys.length := by omega
        have c0 : wr.cell? ⟨g, k * 2, none⟩ = some (ys[k * 2]'e0) := by rw [ho.out.cellAt (k * 2) (by omega), List.getElem?_eq_getElem e0]
        have c1 : wr.cell? ⟨g, k * 2 + 1, none⟩ = some (ys[k * 2 + 1]'e1) := by rw [ho.out.cellAt (k * 2 + 1) (by omega), List.getElem?_eq_getElem e1]
        have f0 := ho.out.frozenAt (k * 2)
        have f1 := ho.out.frozenAt (k * 2 + 1)
        have s1 : Hid (_ ∧ _) := ho.out.stored (k * 2) (.int .u8 77)
        have s2 : Hid (_ ∧ _) := s1.out.1.stored (k * 2 + 1) (.int .u8 78)
        clear hy h'
        go_wp2
        go_roundw
        case rel => exact ⟨k + 1, _, by omega, by go_num, s2.out.1, (hgr.out.trans s1.out.2).trans s2.out.2⟩
        case measure => simp [intOf]; omega
      · obtain rfl : k = n := by omega
        have ho' := ho.out
        have hgr' : w.grownBy wr (Value.ownBlock (.slice (some ⟨g, 0, none⟩) k cap)) := hgr.out
        go_wp2_with (at_builtin; refine wpList_append_own_at _ rfl (.tmp 14) (.tmp 16) 38 rfl b 23 i0 (.agg #[.int .u8 0, .int .u8 0]) 2 2 Try.underlying38 hi hz0 hz1 hz2 rfl (by decide) _ k ys rfl (ho'.alloc _) ⟨wr.heap.size, 0, none⟩ 1 1 [.int .u8 0, .int .u8 79] rfl rfl (World.news_of_block (heap_alloc_new wr _)) two_one (by unfold maxLen; omega) (by omega) (by have := hgr'.size; simp; omega) ?_; intro v' w5 hown' hg5 _ hat; obtain ⟨g', cap', rfl, hb', hlt'⟩ := hown'.form (by omega); have hc5 : w5.cell? ⟨g', k * 2 + 1, none⟩ = some (.int .u8 79) := (by rw [hown'.cellAt (k * 2 + 1) (by omega), List.getElem?_append_right (by rw [ho'.1]; omega), ho'.1]; simp); have hf5 := hown'.frozenAt (k * 2 + 1))
        go_end0
        refine ⟨rfl, ?_⟩
        refine grown_last hgr' (World.grownBy_alloc _ _ _) hg5 hat
end Go.Proofs.Ytphfjhkbbodfaaa
