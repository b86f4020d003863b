/-
  The document's levels, Levels and Depth.
-/
import Derived.Test.YtcjpjofoddpfhaaGreatNsRv
import Derived.Test.YtcjpjofoddpfhaaGreatNsW
namespace Go.Proofs.YtcjpjofoddpfhaaGreat
open Go.RowKit
set_option linter.unusedVariables false
set_option linter.unusedSimpArgs false

theorem run_appendI (w : World) (ty : TypeId) (b : Nat) (v : Value) (l : List Int) (h : RowI w b v l) (g n c : Nat) (k : List Int) (hk : SrcI w (.slice (some ⟨g, 0, none⟩) n c) k) (hc : ∀ j (hj : j < k.length), w.cell? ⟨g, j, none⟩ = some (.int .i64 (k[j]'hj))) (hb : b ≤ w.heap.size) (hsz : l.length + k.length ≤ 4294967296) :
    ∃ v' w', (Builtin.append_ #[25, 25] ty #[v, .slice (some ⟨g, 0, none⟩) n c]).run Tryz.prog w = .ok v' w' ∧ RowI w' b v' (l ++ k) ∧ w.grownBy w' v.ownBlock := by
  obtain ⟨i0, hi, hz0, hz1, hz2⟩ := info_parts infoI
  have hmx : l.length + k.length ≤ maxLen := by unfold maxLen; omega
  have hn : n = k.length := by obtain ⟨_, _, e, _⟩ := hk; injection e
  subst hn
  have hfl : ∀ j x, (eI k)[j]? = some x → w.cell? ((⟨g, 0, none⟩ : Addr).add j) = some x := by
    intro j x hx
    have hj : j < k.length := by have := (List.getElem?_eq_some_iff.1 hx).1; rwa [eI_len] at this
    rw [eI_at hj] at hx
    rw [Addr.add_lit, Nat.zero_add, hc j hj]; exact hx
  obtain ⟨v', w', hr, ho, hgr, _, hat⟩ := run_append_own_at (P := Tryz.prog) w b 25 ty 3 i0 (.int .i64 0) 1 8 Tryz.underlying25 hi hz0 hz1 hz2 rfl (by decide) v l.length (eI l) h ⟨g, 0, none⟩ k.length c (eI k) (by rw [eI_len]; omega) hfl (eI_one k) hmx (by omega) hb
  refine ⟨v', w', hr, ?_, hgr⟩
  unfold RowI
  rw [List.length_append, eI_app]
  exact ho
theorem wpList_appendI {ops : Array Oper} {rest : List Oper} {o : Oper} {a : Act} {w : World} {Q : Exit → Act → World → Prop} (hgd : o.guard = none) (s x : Operand)
    (ho : o.op = .call { callee := .builtin .append, args := #[s, x], argTypes := #[25, 25] })
    (b : Nat) (v : Value) (l : List Int) (hs : a.eval s = v) (h : RowI w b v l) (g : Nat) (y : Int) (hx : a.eval x = .slice (some ⟨g, 0, none⟩) 1 1) (hk : w.cell? ⟨g, 0, none⟩ = some (.int .i64 y))
    (hb : b ≤ w.heap.size) (hsz : l.length + 1 ≤ 4294967296)
    (hK : ∀ v' w', RowI w' b v' (l ++ [y]) → w.grownBy w' v.ownBlock → wpList Tryz.prog ops Q rest (a.put o.dst v') w') : wpList Tryz.prog ops Q (o :: rest) a w := by
  refine wpList_plain hgd fun K hK' => ?_
  have hcs : ∀ j (hj : j < [y].length), w.cell? ⟨g, j, none⟩ = some (.int .i64 ([y][j]'hj)) := fun j hj => by
    have : j = 0 := by simp at hj; exact hj
    subst this; exact hk
  obtain ⟨v', w', hr, h2, h3⟩ := run_appendI w o.type b v l h g 1 1 [y] ⟨_, _, rfl, fun _ => ⟨g, 0, rfl, fun k hk2 => by rw [Nat.zero_add]; exact hcs k hk2⟩⟩ hcs hb hsz
  unfold Oper.wp execOp
  simp only [ho, resolve, invoke, builtin, Sem.run_bind, Sem.run_pure, Result.andThen_ok, List.map_toArray, List.map_cons, List.map_nil, hs, hx, hr]
  exact hK' _ _ (hK v' w' h2 h3)
/-- The levels of spans in their order. -/
def lvN (u : List (Nat × Nat)) : List Nat := (lvs [] u).map (·.2)
theorem lvN_len (u : List (Nat × Nat)) : (lvN u).length = u.length := by unfold lvN; rw [List.length_map, lvs_len]
theorem lvN_app (u : List (Nat × Nat)) (s : Nat × Nat) : lvN (u ++ [s]) = lvN u ++ [lev (lvs [] u) s] := by unfold lvN; rw [lvs_app, List.map_append]; rfl
theorem lvs_pair {u : List (Nat × Nat)} {j : Nat} (hj : j < (lvs [] u).length) (h1 : j < u.length) (h2 : j < (lvN u).length) : (lvs [] u)[j] = (u[j], (lvN u)[j]) := by
  have e1 : ((lvs [] u).map (·.1))[j]'(by simpa using hj) = u[j] := by
    have := lvs_fst u []
    simp only [List.map_nil, List.nil_append] at this
    simp only [this]
  have e2 : (lvN u)[j] = ((lvs [] u)[j]).2 := by simp [lvN]
  rw [List.getElem_map] at e1
  rw [e2]
  exact Prod.ext e1 rfl
theorem lvN_lt {u : List (Nat × Nat)} {j : Nat} (h : j < (lvN u).length) : (lvN u)[j] < u.length := by
  have := lvU_bound u ((lvs [] u)[j]'(by rwa [lvN_len, ← lvs_len] at h)) (List.getElem_mem _)
  rwa [lvs_pair (by rwa [lvN_len, ← lvs_len] at h) (by rwa [lvN_len] at h) h] at this
/-- The level that is found by trying. -/
theorem lev_tried {u : List (Nat × Nat)} {s : Nat × Nat} {L : Nat} (h1 : ∀ m, m < L → fre (lvs [] u) s m = false) (h2 : ∀ j (h1 : j < u.length) (h2 : j < (lvN u).length), (lvN u)[j] = L → mt u[j] s = false) : L = lev (lvs [] u) s := by
  refine lev_eq (lvs_lt u) ⟨fre_iff.2 fun p hp e => ?_, h1⟩
  obtain ⟨j, hj, rfl⟩ := List.mem_iff_getElem.1 hp
  have a1 : j < u.length := by rwa [lvs_len] at hj
  have a2 : j < (lvN u).length := by rw [lvN_len]; exact a1
  rw [lvs_pair hj a1 a2] at e ⊢
  exact h2 j a1 a2 e
theorem fre_hit {u : List (Nat × Nat)} {s : Nat × Nat} {L j : Nat} (a1 : j < u.length) (a2 : j < (lvN u).length) (e : (lvN u)[j] = L) (hm : mt u[j] s = true) : fre (lvs [] u) s L = false := by
  have hj : j < (lvs [] u).length := by rw [lvs_len]; exact a1
  refine fre_no.2 ⟨(lvs [] u)[j], List.getElem_mem _, ?_, ?_⟩
  · rw [lvs_pair hj a1 a2]; exact e
  · rw [lvs_pair hj a1 a2]; exact hm
theorem lvN_at {u : List (Nat × Nat)} (h : InO u) {j : Nat} (hj : j < u.length) (h2 : j < (lvN u).length) : lvU u u[j] = (lvN u)[j] := by
  refine lvU_eq (ino_nodup h) ?_
  have hl : j < (lvs [] u).length := by rw [lvs_len]; exact hj
  rw [← lvs_pair hl hj h2]
  exact List.getElem_mem _
end Go.Proofs.YtcjpjofoddpfhaaGreat
