/-
  Lists of prefixes in memory; the pieces that Less tells, as a list; 'append' of one owned row to another.
-/
import Derived.Test.YthmekipdhlipbaaPxT
import Derived.Maps.AppendAt
import Derived.OwnWalk
namespace Go.Proofs.Ythmekipdhlipbaa
open Go.RowKit
set_option linter.unusedVariables false
set_option linter.unusedSimpArgs false

def flat : List (Nat × Nat) → List Value
  | [] => []
  | p :: l => .int .u32 (p.1 : Int) :: .int .i64 (p.2 : Int) :: flat l
theorem flat_length (l : List (Nat × Nat)) : (flat l).length = l.length * 2 := by
  induction l with
  | nil => rfl
  | cons p l ih => simp only [flat, List.length_cons, ih]; omega
theorem flat_append (l k : List (Nat × Nat)) : flat (l ++ k) = flat l ++ flat k := by
  induction l with
  | nil => rfl
  | cons p l ih => simp only [flat, List.cons_append, ih]
theorem flat_one (l : List (Nat × Nat)) : ∀ u ∈ flat l, u.oneCell' = true := by
  induction l with
  | nil => intro u hu; cases hu
  | cons p l ih =>
    intro u hu
    simp only [flat, List.mem_cons] at hu
    rcases hu with rfl | rfl | hu
    · rfl
    · rfl
    · exact ih u hu
theorem flat_at : ∀ (l : List (Nat × Nat)) (i : Nat) (h : i < l.length), (flat l)[i * 2]? = some (.int .u32 ((l[i]'h).1 : Int)) ∧ (flat l)[i * 2 + 1]? = some (.int .i64 ((l[i]'h).2 : Int))
  | p :: l, 0, _ => ⟨rfl, rfl⟩
  | p :: l, i + 1, h => by
    have := flat_at l i (by simpa using h)
    rw [show (i + 1) * 2 = i * 2 + 2 by omega]
    exact this

/-- The pieces of a less b (both may be): what lies within goes, what lies apart stays, all else falls into its halves. -/
def lessF : Nat → Nat → Nat → Nat → Nat → List (Nat × Nat)
  | 0, a, n, b, m => if witB a n b m then [] else if witB b m a n then [] else [(a, n)]
  | f + 1, a, n, b, m => if witB a n b m then [] else if witB b m a n then lessF f a (n + 1) b m ++ lessF f (a + bk (n + 1)) (n + 1) b m else [(a, n)]
theorem lessF_le : ∀ (f a n b m : Nat), (lessF f a n b m).length ≤ 2 ^ f
  | 0, a, n, b, m => by
    unfold lessF
    split
    · simp
    · split <;> simp
  | f + 1, a, n, b, m => by
    have h1 := lessF_le f a (n + 1) b m
    have h2 := lessF_le f (a + bk (n + 1)) (n + 1) b m
    have hp : 0 < 2 ^ f := Nat.pow_pos (by decide)
    unfold lessF
    rw [Nat.pow_succ]
    split
    · simp
    · split
      · rw [List.length_append]; omega
      · simp only [List.length_cons, List.length_nil]; omega
def lessP (a : Nat) (n : Int) (b : Nat) (m : Int) : List (Nat × Nat) := if chk a n = 0 ∧ chk b m = 0 then lessF (32 - n.toNat) a n.toNat b m.toNat else []

theorem half_lo (a n : Nat) (h : a % bk n = 0) : a % bk (n + 1) = 0 := mod_longer a n (n + 1) (by omega) h
theorem half_hi (a n : Nat) (hn : n < 32) (ha : a < 4294967296) (h : a % bk n = 0) : a + bk (n + 1) < 4294967296 ∧ (a + bk (n + 1)) % bk (n + 1) = 0 := by
  have h1 := top_lt a n ha h (by omega)
  have h2 := bk_succ n hn
  have h3 := bk_pos (n + 1)
  refine ⟨by omega, ?_⟩
  rw [Nat.add_mod_right]
  exact half_lo a n h
/-- Of length 32: what holds b is b. -/
theorem wit_32 (a n b m : Nat) (hn : 32 ≤ n) (ka : chk a (n : Int) = 0) (kb : chk b (m : Int) = 0) (h : witB b m a n = true) : witB a n b m = true := by
  obtain ⟨n', e1, hn', _⟩ := chk_ok ka
  obtain ⟨m', e2, hm', _⟩ := chk_ok kb
  obtain rfl : n = n' := by omega
  obtain rfl : m = m' := by omega
  obtain rfl : n = 32 := by omega
  simp only [witB, kb, true_and, decide_eq_true_eq] at h
  obtain ⟨h1, h2⟩ := h
  obtain rfl : m = 32 := by omega
  rw [hasB_in ka] at h2
  have h3 : b = a := by have := of_decide_eq_true h2; rw [ct_32] at this; exact this
  subst h3
  simp only [witB, ka, true_and, decide_eq_true_eq]
  refine ⟨by omega, ?_⟩
  rw [hasB_in ka, ct_32]
  simp
theorem info_px : (Try.prog.info? 24).map (fun i => (i.zero, i.size, i.bytes)) = some (some (.agg #[.int .u32 0, .int .i64 0]), 2, 16) := by kernel_rfl

/-- The row v of w holds the list. -/
def Row (w : World) (base : Nat) (v : Value) (l : List (Nat × Nat)) : Prop := w.ownsRow base 24 2 v l.length (flat l)
theorem Row.base {w : World} {b b' : Nat} {v : Value} {l : List (Nat × Nat)} (h : Row w b v l) (hb : b' ≤ b) : Row w b' v l := by
  refine ⟨h.1, ?_⟩
  rcases h.2 with h2 | ⟨g, cap, cur, hv, hg, r⟩
  · exact .inl h2
  · exact .inr ⟨g, cap, cur, hv, by omega, r⟩
theorem Row.on {w w1 : World} {b : Nat} {v : Value} {l : List (Nat × Nat)} (h : Row w b v l) (hb : Below w.heap.size w w1) : Row w1 b v l := by
  refine ⟨h.1, ?_⟩
  rcases h.2 with h2 | ⟨g, cap, cur, hv, hg, hh, r⟩
  · exact .inl h2
  · exact .inr ⟨g, cap, cur, hv, hg, by rw [hb.block g (Array.getElem?_eq_some_iff.1 hh).1]; exact hh, r⟩
theorem Row.alloc {w : World} {b : Nat} {v : Value} {l : List (Nat × Nat)} (h : Row w b v l) (o : Obj) : Row (w.alloc o) b v l := World.ownsRow.alloc h o
theorem Row.nil (w : World) (b : Nat) : Row w b (.slice none 0 0) [] := World.ownsRow_nil w b _ _
theorem Row.one (w : World) (b a n : Nat) (hb : b ≤ w.heap.size) : Row (w.alloc (.cells #[.int .u32 a, .int .i64 n] 24)) b (.slice (some ⟨w.heap.size, 0, none⟩) 1 1) [(a, n)] :=
  World.ownsRow_lit w #[.int .u32 a, .int .i64 n] 1 hb (by decide) rfl
theorem Row.lt {w : World} {b : Nat} {v : Value} {l : List (Nat × Nat)} (h : Row w b v l) : ∀ k, v.ownBlock = some k → b ≤ k ∧ k < w.heap.size := World.ownsRow.lt h

/-- One owned row behind another. -/
theorem run_append_rows (w : World) (ty : TypeId) (b : Nat) (v : Value) (l : List (Nat × Nat)) (h : Row w b v l) (c : Nat) (u : Value) (k : List (Nat × Nat)) (hk : Row w c u k)
    (hb : b ≤ w.heap.size) (hsz : l.length + k.length ≤ 4294967296) :
    ∃ v' w', (Builtin.append_ #[25, 25] ty #[v, u]).run Try.prog w = .ok v' w' ∧ Row w' b v' (l ++ k) ∧ w.grownBy w' v.ownBlock := by
  obtain ⟨i0, hi, hz0, hz1, hz2⟩ := info_parts info_px
  have hmx : l.length + k.length ≤ maxLen := by unfold maxLen; omega
  rcases hk.2 with ⟨rfl, hk0⟩ | ⟨g, cap, cur, rfl, hg, hh, hnc, hcm, hcs, htk⟩
  · have hr := run_append_owned_none (P := Try.prog) (w := w) b 25 ty 24 i0 2 Try.underlying25 hi v l.length (flat l) h
    refine ⟨v, w, hr, ?_, ⟨rfl, rfl, rfl, Nat.le_refl _, fun _ _ _ => rfl⟩⟩
    rw [List.eq_nil_of_length_eq_zero hk0, List.append_nil]
    exact h
  · have hn := World.ownsRow.cells hk (g := g) rfl
    obtain ⟨v', w', hr, ho, hgr, _⟩ := run_append_own (P := Try.prog) w b 25 ty 24 i0 (.agg #[.int .u32 0, .int .i64 0]) 2 16 Try.underlying25 hi hz0 hz1 hz2 rfl (by decide) v l.length (flat l) h ⟨g, 0, none⟩ k.length cap (flat k) (flat_length k) hn (flat_one k) hmx (by omega) hb
    refine ⟨v', w', hr, ?_, hgr⟩
    unfold Row
    rw [List.length_append, flat_append]
    exact ho

theorem wp_append_rows {o : Oper} {a : Act} {w : World} {K : Act → World → Prop} {Q : Exit → Act → World → Prop} (s x : Operand)
    (ho : o.op = .call { callee := .builtin .append, args := #[s, x], argTypes := #[25, 25] })
    (b : Nat) (v : Value) (l : List (Nat × Nat)) (hs : a.eval s = v) (h : Row w b v l) (c : Nat) (u : Value) (k : List (Nat × Nat)) (hx : a.eval x = u) (hk : Row w c u k)
    (hb : b ≤ w.heap.size) (hsz : l.length + k.length ≤ 4294967296)
    (hK : ∀ v' w', Row w' b v' (l ++ k) → w.grownBy w' v.ownBlock → K (a.put o.dst v') w') : o.wp Try.prog a w K Q := by
  obtain ⟨v', w', hr, h2, h3⟩ := run_append_rows w o.type b v l h c u k hk hb hsz
  unfold Oper.wp execOp
  simp only [ho, resolve, invoke, builtin, Sem.run_bind, Sem.run_pure, Result.andThen_ok, List.map_toArray, List.map_cons, List.map_nil, hs, hx, hr]
  exact hK v' w' h2 h3
theorem wpList_append_rows {ops : Array Oper} {rest : List Oper} {o : Oper} {a : Act} {w : World} {Q : Exit → Act → World → Prop} (hgd : o.guard = none) (s x : Operand)
    (ho : o.op = .call { callee := .builtin .append, args := #[s, x], argTypes := #[25, 25] })
    (b : Nat) (v : Value) (l : List (Nat × Nat)) (hs : a.eval s = v) (h : Row w b v l) (c : Nat) (u : Value) (k : List (Nat × Nat)) (hx : a.eval x = u) (hk : Row w c u k)
    (hb : b ≤ w.heap.size) (hsz : l.length + k.length ≤ 4294967296)
    (hK : ∀ v' w', Row w' b v' (l ++ k) → w.grownBy w' v.ownBlock → wpList Try.prog ops Q rest (a.put o.dst v') w') : wpList Try.prog ops Q (o :: rest) a w :=
  wpList_plain hgd fun _ hK' => wp_append_rows s x ho b v l hs h c u k hx hk hb hsz fun v' w' h2 h3 => hK' _ _ (hK v' w' h2 h3)
theorem step_append_rows {ops : Array Oper} {o : Oper} {a : Act} {w : World} {K : Act → World → Prop} {Q : Exit → Act → World → Prop} {E : Prop} (hgd : o.guard = none) (s x : Operand)
    (ho : o.op = .call { callee := .builtin .append, args := #[s, x], argTypes := #[25, 25] })
    (b : Nat) (v : Value) (l : List (Nat × Nat)) (hs : a.eval s = v) (h : Row w b v l) (c : Nat) (u : Value) (k : List (Nat × Nat)) (hx : a.eval x = u) (hk : Row w c u k)
    (hb : b ≤ w.heap.size) (hsz : l.length + k.length ≤ 4294967296)
    (hK : ∀ v' w', Row w' b v' (l ++ k) → w.grownBy w' v.ownBlock → K (a.put o.dst v') w') : if Region.wanted o (yielded ops a.tmps) = true then Oper.wp Try.prog o a w K Q else E := by
  have hw : Region.wanted o (yielded ops a.tmps) = true := by simp [Region.wanted, hgd]
  rw [if_pos hw]
  exact wp_append_rows s x ho b v l hs h c u k hx hk hb hsz hK
theorem bel_grown {B : Nat} {a w w' : World} {b : Nat} {v : Value} {l : List (Nat × Nat)} (h : Below B a w) (hr : Row w b v l) (hg : w.grownBy w' v.ownBlock) (hB : B ≤ w.heap.size) (hb : B ≤ b) : Below B a w' :=
  h.grown hg hB fun k hk => Nat.le_trans hb (hr.lt k hk).1
end Go.Proofs.Ythmekipdhlipbaa
