/-
  A node made, a node given back.
-/
import Derived.Test.YtfbkjghipahipaaTrT
namespace Go.Proofs.Ytfbkjghipahipaa
open Go.RowKit
set_option linter.unusedVariables false
set_option linter.unusedSimpArgs false

section
variable {w w' : World} {t : Nat} {v v' : Value} {W M : Nat} {A A' : List Nd} {r f c r' f' c' : Nat}
theorem Tri.put (h : Tri w t v W M A r f c) (ho : Only t w w') (hb : w'.heap[t]? = some (.cells #[.int .i64 (W : Int), .int .i64 (M : Int), v, .int .i64 (r' : Int), .int .i64 (f' : Int), .int .i64 (c' : Int)] 58 (0, 0))) : Tri w' t v W M A r' f' c' ∧ Moved w w' t v v := by
  refine ⟨⟨hb, ⟨h.2.1.1, ?_⟩, h.2.2⟩, ⟨ho.os, ho.tape, ho.output, Nat.le_of_eq ho.size.symm, fun k hk ht _ => ho.block k ht, fun k e => .inl e⟩⟩
  rcases h.2.1.2 with h2 | ⟨g, cap, cur, hv, hg, hh, q⟩
  · exact .inl h2
  · exact .inr ⟨g, cap, cur, hv, hg, by rw [ho.block g (fun e => h.2.2 (by rw [hv, e]; rfl))]; exact hh, q⟩
theorem only_setCell (w : World) (t j : Nat) (u : Value) : Only t w (w.setCell ⟨t, j, none⟩ u) :=
  ⟨rfl, rfl, rfl, by simp, fun k hk => Below.heap_setCell w ⟨t, j, none⟩ u k hk⟩
theorem Tri.set3 (h : Tri w t v W M A r f c) (x : Nat) : Tri (w.setCell ⟨t, 3, none⟩ (.int .i64 (x : Int))) t v W M A x f c ∧ Moved w (w.setCell ⟨t, 3, none⟩ (.int .i64 (x : Int))) t v v :=
  h.put (only_setCell w t 3 _) (blk_set h.1 _)
theorem Tri.set4 (h : Tri w t v W M A r f c) (x : Nat) : Tri (w.setCell ⟨t, 4, none⟩ (.int .i64 (x : Int))) t v W M A r x c ∧ Moved w (w.setCell ⟨t, 4, none⟩ (.int .i64 (x : Int))) t v v :=
  h.put (only_setCell w t 4 _) (blk_set h.1 _)
theorem Tri.set5 (h : Tri w t v W M A r f c) (x : Nat) : Tri (w.setCell ⟨t, 5, none⟩ (.int .i64 (x : Int))) t v W M A r f x ∧ Moved w (w.setCell ⟨t, 5, none⟩ (.int .i64 (x : Int))) t v v :=
  h.put (only_setCell w t 5 _) (blk_set h.1 _)
/-- The row is another. -/
theorem Tri.row (hr : RowN w 0 v' A') (hne : v'.ownBlock ≠ some t) (hb : w.heap[t]? = some (.cells #[.int .i64 (W : Int), .int .i64 (M : Int), v, .int .i64 (r : Int), .int .i64 (f : Int), .int .i64 (c : Int)] 58 (0, 0))) : Tri (w.setCell ⟨t, 2, none⟩ v') t v' W M A' r f c := by
  refine ⟨blk_set hb _, ⟨hr.1, ?_⟩, hne⟩
  rcases hr.2 with h2 | ⟨g, cap, cur, hv, hg, hh, q⟩
  · exact .inl h2
  · exact .inr ⟨g, cap, cur, hv, hg, by rw [(only_setCell w t 2 v').block g (fun e => hne (by rw [hv, e]; rfl))]; exact hh, q⟩
/-- A node of the row is another. -/
theorem Tri.over {g n cap : Nat} (hv : v = .slice (some ⟨g, 0, none⟩) n cap) (h : Tri w t v W M A r f c) (hr : RowN w' 0 v A') (hg : w.grownBy w' (some g)) : Tri w' t v W M A' r f c ∧ Moved w w' t v v := by
  subst hv
  have hne : t ≠ g := fun e => h.2.2 (by simp [Value.ownBlock, e])
  exact ⟨⟨by rw [hg.block t h.lt (by simpa using hne)]; exact h.1, hr, h.2.2⟩, ⟨hg.os, hg.tape, hg.output, hg.size, fun k hk _ hv => hg.block k hk (fun e => hv (by simp at e; simp [Value.ownBlock, e])), fun k e => .inl e⟩⟩
theorem take_set (A : List Nd) (p : Nat) (x : Nd) (h : p < A.length) : A.take p ++ [x] ++ A.drop (p + [x].length) = A.set p x := by
  rw [List.set_eq_take_append_cons_drop, if_pos h]; simp
theorem Tri.filled (h : Tri w t v W M A r f c) (h0 : 0 < A.length) : ∃ g cap, v = .slice (.some ⟨g, 0, none⟩) A.length cap ∧ A.length ≤ cap ∧ g < w.heap.size := by
  obtain ⟨g, cap, hv, hc, _, hg⟩ := h.2.1.some h0
  exact ⟨g, cap, hv, hc, hg⟩
end
set_option maxHeartbeats 4000000 in
set_option maxRecDepth 20000 in
theorem take0 (t : Nat) (v : Value) (W M : Nat) (A : List Nd) (r c : Nat) (w : World) (h : Tri w t v W M A r 0 c) (hA : A.length ≤ 4294967295) (hc : c ≤ 4294967295) :
    Calls Try.prog 43 #[.pointer (some ⟨t, 0, none⟩)] w fun e w' => e = .returned (.int .i64 ((A.length + 1 : Nat) : Int)) ∧ ∃ v', Tri w' t v' W M (A ++ [ndZ]) r 0 (c + 1) ∧ Moved w w' t v v' := by
  have h5 := h.set5 (c + 1)
  have hcc : ((c + 1 : Nat) : Int) = (c : Int) + 1 := by omega
  rw [hcc] at h5
  have hlt := h.lt
  obtain ⟨c0, c1, c2, c3, c4, c5⟩ := blk6 h.1
  have hfz := blk_free h.1 5
  have HT : Hid (Tri (w.setCell ⟨t, 5, none⟩ (.int .i64 ((c : Int) + 1))) t v W M A r 0 (c + 1)) := h5.1
  have HM : Hid (Moved w (w.setCell ⟨t, 5, none⟩ (.int .i64 ((c : Int) + 1))) t v v) := h5.2
  obtain ⟨ad, cap, rfl, hcap, hat⟩ := h.2.1.form
  obtain ⟨n, hn⟩ : ∃ n, n = A.length := ⟨_, rfl⟩
  have Hn : Hid (n = A.length) := hn
  have HL : Hid ((A ++ [ndZ]).length = n + 1) := by show _ = _; rw [List.length_append, hn]; rfl
  rw [← hn] at hA hcap c2 HT HM ⊢
  clear hat h h5 hn hcc
  have hc0 : (c : Int) ≤ 4294967295 := by omega
  have hn0 : (n : Int) ≤ 4294967295 := by omega
  go_enter Try.func43, Try.ntmps43
  have hlt1 := HT.out.lt
  simp only [World.size_setCell] at hlt1
  have hne : ¬ t = w.heap.size := by omega
  have HS : Hid (SrcN ((w.setCell ⟨t, 5, none⟩ (.int .i64 ((c : Int) + 1))).alloc (.cells #[.int .i64 0, .int .i64 0, .bool false, .int .i64 0] 70)) (.slice (some ⟨w.heap.size, 0, none⟩) 1 1) [ndZ]) := by
    have q := (RowN.one (w.setCell ⟨t, 5, none⟩ (.int .i64 ((c : Int) + 1))) 0 ndZ (Nat.zero_le _)).src
    rw [World.size_setCell] at q
    exact q
  go_wp2_with (first | (at_builtin; refine wpList_appendSN rfl (.tmp 20) (.tmp 22) rfl 0 (.slice ad n cap) A rfl (HT.out.2.1.alloc _) _ [ndZ] rfl HS.out (Nat.zero_le _) (by rw [← Hn.out]; simp; omega) ?_; intro v5 w5 hrow5 hgr5 hat5; obtain ⟨g1, cap1, hv5, hc1, _, hg1⟩ := hrow5.some (by simp); rw [HL.out] at hv5 hc1; subst hv5; have h5 : w5.heap[t]? = some (.cells #[.int .i64 (W : Int), .int .i64 (M : Int), .slice ad n cap, .int .i64 (r : Int), .int .i64 ((0 : Nat) : Int), .int .i64 ((c + 1 : Nat) : Int)] 58 (0, 0)) := (hgr5.block t (by simp; omega) (fun e => HT.out.2.2 e.symm)).trans (blk_alloc HT.out.1 _); have e2 := (blk6 h5).2.2.1; have f2 := blk_free h5 2))
  have hgt : g1 ≠ t := by
    intro e
    rcases hat5 with a | a
    · exact HT.out.2.2 (by rw [← a, ← e]; rfl)
    · have : g1 = w.heap.size + 1 := by simpa [Value.ownBlock] using a
      omega
  go_ret
  refine ⟨ret_int (by omega), _, Tri.row hrow5 (fun e => hgt (by simpa [Value.ownBlock] using e)) h5, HM.out.trans ?_⟩
  have ho := only_setCell w5 t 2 (.slice (some ⟨g1, 0, none⟩) (n + 1) cap1)
  refine ⟨ho.os.trans hgr5.os, ho.tape.trans hgr5.tape, ho.output.trans hgr5.output, ?_, fun k hk ht hv => ?_, fun k e => ?_⟩
  · have := hgr5.size; have := ho.size; simp at *; omega
  · rw [ho.block k ht, hgr5.block k (by simp at hk ⊢; omega) (fun e => hv e.symm), Below.heap_alloc _ _ _ (by simpa using hk)]
  · rcases hat5 with a | a
    · exact .inl (by rw [← a]; exact e)
    · right; rw [e] at a
      have : k = w.heap.size + 1 := by simpa using a
      simp; omega
end Go.Proofs.Ytfbkjghipahipaa
