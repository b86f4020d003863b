/-
  What TrieTurned wants besides: unlike keys, a call appended, what an append leaves.
-/
import Derived.Test.YtfbkjghipahipaaTrTp
import Derived.Test.YtfbkjghipahipaaTrUq
namespace Go.Proofs.Ytfbkjghipahipaa
open Go.RowKit Go.Shelf
set_option linter.unusedVariables false
set_option linter.unusedSimpArgs false

def Ne2 (l : List Opx) (a b : Nat) : Prop := ∀ (ha : a < l.length) (hb : b < l.length), ¬ ((l[a]'ha).a = (l[b]'hb).a ∧ (l[a]'ha).n = (l[b]'hb).n)
theorem ne2_pw (l : List Opx) (h : ∀ a b, a < b → b < l.length → Ne2 l a b) : l.Pairwise (fun x y => ¬ (x.a = y.a ∧ x.n = y.n)) := by
  rw [List.pairwise_iff_getElem]
  intro i j hi hj hij
  exact h i j hij hj hi hj
theorem takeS {A : Type} (l : List A) (k : Nat) (hk : k < l.length) : l.take (k + 1) = l.take k ++ [l[k]] := by
  rw [List.take_add_one, List.getElem?_eq_getElem hk]; rfl
theorem grown_at {w w' : World} {row : Option Nat} (h : w.grownBy w' row) {B : Nat} (hB : B < w.heap.size) (hr : row ≠ some B) : w'.heap[B]? = w.heap[B]? := h.block B hB (fun e => hr e.symm)
theorem wp_appendSQ {o : Oper} {a : Act} {w : World} {K : Act → World → Prop} {Q : Exit → Act → World → Prop} (s x : Operand)
    (ho : o.op = .call { callee := .builtin .append, args := #[s, x], argTypes := #[22, 22] })
    (b : Nat) (v : Value) (l : List Opx) (hs : a.eval s = v) (h : RowQ w b v l) (u : Value) (k : List Opx) (hx : a.eval x = u) (hk : SrcQ w u k)
    (hb : b ≤ w.heap.size) (hsz : l.length + k.length ≤ 4294967296)
    (hK : ∀ v' w', RowQ w' b v' (l ++ k) → w.grownBy w' v.ownBlock → (v'.ownBlock = v.ownBlock ∨ v'.ownBlock = .some w.heap.size) → K (a.put o.dst v') w') : o.wp Try.prog a w K Q := by
  obtain ⟨v', w', hr, h2, h3, h4⟩ := run_appendSQ w o.type b v l h u k hk hb hsz
  unfold Oper.wp execOp
  simp only [ho, resolve, invoke, builtin, Sem.run_bind, Sem.run_pure, Result.andThen_ok, List.map_toArray, List.map_cons, List.map_nil, hs, hx, hr]
  exact hK v' w' h2 h3 h4
end Go.Proofs.Ytfbkjghipahipaa
