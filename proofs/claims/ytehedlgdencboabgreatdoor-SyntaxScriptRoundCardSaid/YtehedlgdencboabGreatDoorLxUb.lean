/-
  'append' of one owned row of tokens to another: the answer lies where the first lay, or in a new block.
-/
import Derived.Test.YtehedlgdencboabGreatDoorLxU
import Derived.Test.YtehedlgdencboabGreatDoorBxW
namespace Go.Proofs.YtehedlgdencboabGreatDoor
open Go.RowKit
set_option linter.unusedVariables false
set_option linter.unusedSimpArgs false

theorem run_appendT2 (w : World) (ty : TypeId) (b : Nat) (v : Value) (l : List (Tk)) (h : RowT w b v l) (c : Nat) (u : Value) (k : List (Tk)) (hk : RowT w c u k)
    (hb : b ≤ w.heap.size) (hsz : l.length + k.length ≤ 4294967296) :
    ∃ v' w', (Builtin.append_ #[78, 78] ty #[v, u]).run Tryz.prog w = .ok v' w' ∧ RowT w' b v' (l ++ k) ∧ w.grownBy w' v.ownBlock ∧ (v'.ownBlock = v.ownBlock ∨ v'.ownBlock = some w.heap.size) := by
  obtain ⟨v', w', hr, h1, h2⟩ := run_appendT w ty b v l h c u k hk hb hsz
  refine ⟨v', w', hr, h1, h2, ?_⟩
  obtain ⟨i0, hi, hz0, hz1, hz2⟩ := info_parts infoT
  have hmx : l.length + k.length ≤ maxLen := by unfold maxLen; omega
  rcases hk.2 with ⟨rfl, hk0⟩ | ⟨g, cap, cur, rfl, hg, hh, hnc, hcm, hcs, htk⟩
  · have hr' := run_append_owned_none (P := Tryz.prog) (w := w) b 78 ty 84 i0 5 Tryz.underlying78 hi v l.length (flatT l) h
    rw [hr] at hr'
    simp only [Result.ok.injEq] at hr'
    exact .inl (by rw [hr'.1])
  · have hn := World.ownsRow.cells hk (g := g) rfl
    rcases h.2 with ⟨hv, hn0⟩ | ⟨g1, cap1, cur1, hv, hbg, hg1, hnc1, hcm1, hcs1, htake⟩
    · subst hv
      by_cases hm : k.length = 0
      · have hh2 := World.ownsRow.lt h1
        have e : v' = .slice none 0 0 := by
          obtain ⟨v2, w2, hr2, _, _, h4⟩ := run_append_own (P := Tryz.prog) w b 78 ty 84 i0 (.agg #[.int .i64 0, .string ByteArray.empty, .int .u32 0, .int .i64 0, .int .i64 0]) 5 48 Tryz.underlying78 hi hz0 hz1 hz2 rfl (by decide) (.slice none 0 0) l.length (flatT l) h ⟨g, 0, none⟩ k.length cap (flatT k) (flatT_length k) hn (flatT_one k) hmx (by omega) hb
          rw [hr] at hr2
          simp only [Result.ok.injEq] at hr2
          rw [hr2.1]
          exact h4.2 ⟨rfl, hm⟩
        exact .inl (by rw [e])
      · have hr' := run_append_nil (P := Tryz.prog) w 78 ty 84 i0 _ Tryz.underlying78 hi hz0 ⟨g, 0, none⟩ k.length cap (flatT k) (by rw [hz1]; exact flatT_length k) hn (by omega) (by omega) (by rw [hz2]; omega)
        rw [hr] at hr'
        simp only [Result.ok.injEq] at hr'
        exact .inr (by rw [hr'.1]; rfl)
    · subst hv
      by_cases hroom : l.length + k.length ≤ cap1
      · have hr' := run_append_room (P := Tryz.prog) w 78 ty 84 i0 Tryz.underlying78 hi g1 l.length cap1 cur1 hg1 ⟨g, 0, none⟩ k.length cap (flatT k) (by rw [hz1]; exact flatT_length k) hn (flatT_one k) hroom (by rw [flatT_length, hcs1, hz1, ← Nat.add_mul]; exact Nat.mul_le_mul_right _ hroom)
        rw [hr] at hr'
        simp only [Result.ok.injEq] at hr'
        exact .inl (by rw [hr'.1]; rfl)
      · have holds := World.ownsRow.cells h (g := g1) rfl
        have hr' := run_append_grow (P := Tryz.prog) w 78 ty 84 i0 _ Tryz.underlying78 hi hz0 ⟨g1, 0, none⟩ l.length cap1 (flatT l) (by rw [hz1]; exact flatT_length l) holds ⟨g, 0, none⟩ k.length cap (flatT k) (by rw [hz1]; exact flatT_length k) hn (by omega) (by omega) (growslice_fits (by omega) (by rw [hz2]; omega))
        rw [hr] at hr'
        simp only [Result.ok.injEq] at hr'
        exact .inr (by rw [hr'.1]; rfl)
theorem wpList_appendT2 {ops : Array Oper} {rest : List Oper} {o : Oper} {a : Act} {w : World} {Q : Exit → Act → World → Prop} (hgd : o.guard = none) (s x : Operand)
    (ho : o.op = .call { callee := .builtin .append, args := #[s, x], argTypes := #[78, 78] })
    (b : Nat) (v : Value) (l : List (Tk)) (hs : a.eval s = v) (h : RowT w b v l) (c : Nat) (u : Value) (k : List (Tk)) (hx : a.eval x = u) (hk : RowT w c u k)
    (hb : b ≤ w.heap.size) (hsz : l.length + k.length ≤ 4294967296)
    (hK : ∀ v' w', RowT w' b v' (l ++ k) → w.grownBy w' v.ownBlock → (v'.ownBlock = v.ownBlock ∨ v'.ownBlock = some w.heap.size) → wpList Tryz.prog ops Q rest (a.put o.dst v') w') : wpList Tryz.prog ops Q (o :: rest) a w := by
  refine wpList_plain hgd fun _ hK' => ?_
  obtain ⟨v', w', hr, h2, h3, h4⟩ := run_appendT2 w o.type b v l h c u k hk hb hsz
  unfold Oper.wp execOp
  simp only [ho, resolve, invoke, builtin, Sem.run_bind, Sem.run_pure, Result.andThen_ok, List.map_toArray, List.map_cons, List.map_nil, hs, hx, hr]
  exact hK' _ _ (hK v' w' h2 h3 h4)
theorem only_set (w : World) (B j : Nat) (u : Value) : Only B w (w.setCell ⟨B, j, none⟩ u) :=
  ⟨rfl, rfl, rfl, by simp [World.setCell], fun k hk => Below.heap_setCell _ _ _ _ hk⟩
theorem Only.trans {B : Nat} {w w1 w2 : World} (h : Only B w w1) (h2 : Only B w1 w2) : Only B w w2 :=
  ⟨h2.os.trans h.os, h2.tape.trans h.tape, h2.output.trans h.output, h2.size.trans h.size, fun k hk => (h2.block k hk).trans (h.block k hk)⟩
theorem Only.drew {B : Nat} {w w1 : World} (h : Only B w w1) : Only B w w1.drew := ⟨h.os, h.tape, h.output, h.size, h.block⟩
theorem blk_drew {w : World} {B : Nat} {o : Obj} (h : w.heap[B]? = some o) : w.drew.heap[B]? = some o := h
theorem blk_grown {w w1 : World} {B : Nat} {o : Obj} {row : Option Nat} (h : w.heap[B]? = some o) (hg : w.grownBy w1 row) (hne : some B ≠ row) : w1.heap[B]? = some o := by
  rw [hg.block B (blk_lt h) hne]; exact h
end Go.Proofs.YtehedlgdencboabGreatDoor
