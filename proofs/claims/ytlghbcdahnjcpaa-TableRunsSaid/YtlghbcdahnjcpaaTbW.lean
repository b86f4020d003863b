/-
  What the law's examples use: every, example; the document's examples, reckoned.
-/
import Derived.Test.YtlghbcdahnjcpaaTbQ
import Derived.Test.YtlghbcdahnjcpaaTbJ
import Derived.Test.YtlghbcdahnjcpaaTbD
import Derived.Test.YtlghbcdahnjcpaaTbM
namespace Go.Proofs.Ytlghbcdahnjcpaa
open Go.RowKit
set_option linter.unusedVariables false
set_option linter.unusedSimpArgs false

def exC (m : Int) : Cf := ⟨m, 1, 1000, 1000, 1000, 4, 8⟩
theorem everyC (i a : Int) (w : World) : Calls Try.prog 27 #[.int .i64 i, .int .i64 a] w fun e w' => e = .returned (.agg #[.int .i64 (allR i a).i, .int .u32 ((allR i a).s : Int), .int .i64 (allR i a).sl, .int .u32 ((allR i a).d : Int), .int .i64 (allR i a).dl, .int .u16 ((allR i a).p.1 : Int), .int .u16 ((allR i a).p.2 : Int), .int .u16 ((allR i a).q.1 : Int), .int .u16 ((allR i a).q.2 : Int), .int .u8 ((allR i a).m.1 : Int), .int .u8 ((allR i a).m.2 : Int), .int .i64 (allR i a).act]) ∧ Below w.heap.size w w' := by
  go_enter Try.func27, Try.ntmps27
  go_wp2_with (fail)
  exact bodyPost_ret (results_blk Try.results27 rfl (blk_new w _) Try.underlying43 rfl (by kernel_rfl)) rfl ⟨rfl, (Below.refl _ _).alloc (Nat.le_refl _) _⟩
theorem exampleC (w : World) : Calls Try.prog 20 #[] w fun e w' => e = .returned (.agg #[.int .i64 2, .int .i64 1, .int .i64 1000, .int .i64 1000, .int .i64 1000, .int .i64 4, .int .i64 8]) ∧ Below w.heap.size w w' := by
  go_enter Try.func20, Try.ntmps20
  go_wp2_with (fail)
  exact bodyPost_ret (results_blk Try.results20 rfl (blk_new w _) Try.underlying24 rfl (by kernel_rfl)) rfl ⟨rfl, (Below.refl _ _).alloc (Nat.le_refl _) _⟩
theorem exC_bd (m : Int) (hm : I64 m) : BdC (exC m) := by
  unfold BdC exC I64 at *
  refine ⟨hm, ?_, ?_, ?_, ?_, ?_, ?_⟩ <;> simp
theorem exC_ok (m : Int) (h : 1 ≤ m ∧ m ≤ 64) : okC (exC m) = true := by
  have h1 : amg m 1 64 = true := amg_iff.2 h
  have h2 : amg 1 1 4 = true := by decide
  have h3 : amg 1000 0 1048576 = true := by decide
  have h4 : amg 4 1 16 = true := by decide
  have h5 : amg 8 0 10 = true := by decide
  unfold okC exC
  simp only [h1, h2, h3, h4, h5, Bool.and_true]
theorem errs_all {i a : Int} (h : 1 ≤ i ∧ i ≤ 999999 ∧ 1 ≤ a ∧ a ≤ 4) : (errs (allR i a)).1 = 0 := (okR_err _).1 (by rw [allR_ok, decide_eq_true h])
theorem h0_ok : OkH ⟨0, 0, 0, 0, 0⟩ := by unfold OkH; decide
theorem h9_ok : OkH ⟨9, 0, 0, 0, 0⟩ := by unfold OkH; decide
theorem ex_join (l : List Ru) (i a : Int) (h : 1 ≤ i ∧ i ≤ 999999 ∧ 1 ≤ a ∧ a ≤ 4) (hf : fnd l i = -1) : joinE l (allR i a) = 0 := joinE_ok.2 ⟨errs_all h, hf⟩
theorem ex_1 : insE [] 2 0 (allR 1 2) = 0 ∧ insL [] 2 0 (allR 1 2) = [allR 1 2] := by
  have e : insE [] 2 0 (allR 1 2) = 0 := by unfold insE; rw [if_pos (ex_join [] 1 2 (by decide) rfl)]; decide
  exact ⟨e, by unfold insL; rw [if_pos e]; rfl⟩
theorem ex_2 : insE [allR 1 2] 2 0 (allR 2 3) = 0 ∧ insL [allR 1 2] 2 0 (allR 2 3) = [allR 2 3, allR 1 2] := by
  have e : insE [allR 1 2] 2 0 (allR 2 3) = 0 := by unfold insE; rw [if_pos (ex_join [allR 1 2] 2 3 (by decide) (by decide))]; decide
  exact ⟨e, by unfold insL; rw [if_pos e]; rfl⟩
theorem ex_3 : insE [allR 2 3, allR 1 2] 2 0 (allR 3 3) = 113 ∧ insL [allR 2 3, allR 1 2] 2 0 (allR 3 3) = [allR 2 3, allR 1 2] := by
  have e : insE [allR 2 3, allR 1 2] 2 0 (allR 3 3) = 113 := by unfold insE; rw [if_pos (ex_join [allR 2 3, allR 1 2] 3 3 (by decide) (by decide))]; decide
  exact ⟨e, by unfold insL; rw [if_neg (by rw [e]; decide)]⟩
theorem ex_m (R : Ru) (l : List Ru) (h : Hd) (hm : matchR R h = true) : mat (R :: l) h = 0 := by
  show (if matchR R h = true then ((0 : Nat) : Int) else matK h l 1) = 0
  rw [if_pos hm]; rfl
theorem ex_4 : mat [allR 2 3, allR 1 2] ⟨0, 0, 0, 0, 0⟩ = 0 := ex_m _ _ _ (by rw [allR_has 2 3 _ h0_ok]; decide)
theorem ex_5 : movE [allR 2 3, allR 1 2] 2 1 = 0 ∧ movL [allR 2 3, allR 1 2] 2 1 = [allR 1 2, allR 2 3] := ⟨by decide, by rfl⟩
theorem ex_6 : mat [allR 1 2, allR 2 3] ⟨9, 0, 0, 0, 0⟩ = 0 := ex_m _ _ _ (by rw [allR_has 1 2 _ h9_ok]; decide)
theorem ex_7 : fnd [allR 1 2, allR 2 3] 1 = 0 ∧ fnd [allR 1 2, allR 2 3] 9 = -1 := ⟨by decide, by decide⟩
theorem ex_bd1 (R : Ru) (h : BdR R) : ∀ k (hk : k < [R].length), BdR ([R][k]'hk) := fun k hk => by
  obtain rfl : k = 0 := by simpa using hk
  exact h
theorem ex_bd2 (R S : Ru) (h : BdR R) (g : BdR S) : ∀ k (hk : k < [R, S].length), BdR ([R, S][k]'hk) := fun k hk => by
  have : k = 0 ∨ k = 1 := by simp at hk; omega
  rcases this with rfl | rfl
  · exact h
  · exact g
end Go.Proofs.Ytlghbcdahnjcpaa
