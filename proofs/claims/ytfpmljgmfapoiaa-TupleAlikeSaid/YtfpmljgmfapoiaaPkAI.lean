/-
  PkAI: ExU ExB SpA SpB SpU SpSr ExK2 ExPlU2 ExPn2 ExPa2 ExPs2, one behind the other (tools/pack.py).
-/
import Derived.Test.YtfpmljgmfapoiaaPkAB
import Derived.Maps.AppendAt
import Derived.OwnWalk
import Derived.Test.YtfpmljgmfapoiaaPkAD
import Derived.Deep.AppendLies
import Derived.Test.YtfpmljgmfapoiaaProg
import Derived.Test.YtfpmljgmfapoiaaPkAA
import Derived.Sort.Grow
import Derived.Deep.RegionHeld3
import Derived.Deep.DrawnRows
import Derived.WalkMore
/-
  Lists of stems in memory; 'append' of one owned row to another.
-/
namespace Go.Proofs.Ytfpmljgmfapoiaa.Xp
open Go.RowKit
set_option linter.unusedVariables false
set_option linter.unusedSimpArgs false

def flatT : List (Nat × Nat) → List Value
  | [] => []
  | p :: l => .int .u16 p.1 :: .int .i64 p.2 :: flatT l
theorem flatT_length (l : List (Nat × Nat)) : (flatT l).length = l.length * 2 := by
  induction l with
  | nil => rfl
  | cons p l ih => simp only [flatT, List.length_cons, ih]; omega
theorem flatT_append (l k : List (Nat × Nat)) : flatT (l ++ k) = flatT l ++ flatT k := by
  induction l with
  | nil => rfl
  | cons p l ih => simp only [flatT, List.cons_append, ih]
theorem flatT_one (l : List (Nat × Nat)) : ∀ u ∈ flatT l, u.oneCell' = true := by
  induction l with
  | nil => intro u hu; cases hu
  | cons p l ih =>
    intro u hu
    simp only [flatT, List.mem_cons] at hu
    rcases hu with rfl | rfl | hu
    · rfl
    · rfl
    · exact ih u hu
theorem flatT_at : ∀ (l : List (Nat × Nat)) (i : Nat) (h : i < l.length), (flatT l)[i * 2]? = some (.int .u16 ((l[i]'h).1 : Int)) ∧ (flatT l)[i * 2 + 1]? = some (.int .i64 ((l[i]'h).2 : Int))
  | p :: l, 0, _ => ⟨rfl, rfl⟩
  | p :: l, i + 1, h => by
    have := flatT_at l i (by simpa using h)
    rw [show (i + 1) * 2 = i * 2 + 2 by omega]
    exact this

theorem info_st : (Try.prog.info? 154).map (fun i => (i.zero, i.size, i.bytes)) = some (some (.agg #[.int .u16 0, .int .i64 0]), 2, 16) := by kernel_rfl

/-- The row v of w holds the list. -/
def RowT (w : World) (base : Nat) (v : Value) (l : List (Nat × Nat)) : Prop := w.ownsRow base 154 2 v l.length (flatT l)
theorem RowT.base {w : World} {b b' : Nat} {v : Value} {l : List (Nat × Nat)} (h : RowT w b v l) (hb : b' ≤ b) : RowT w b' v l := by
  refine ⟨h.1, ?_⟩
  rcases h.2 with h2 | ⟨g, cap, cur, hv, hg, r⟩
  · exact .inl h2
  · exact .inr ⟨g, cap, cur, hv, by omega, r⟩
theorem RowT.on {w w1 : World} {b : Nat} {v : Value} {l : List (Nat × Nat)} (h : RowT w b v l) (hb : Below w.heap.size w w1) : RowT w1 b v l := by
  refine ⟨h.1, ?_⟩
  rcases h.2 with h2 | ⟨g, cap, cur, hv, hg, hh, r⟩
  · exact .inl h2
  · exact .inr ⟨g, cap, cur, hv, hg, by rw [hb.block g (Array.getElem?_eq_some_iff.1 hh).1]; exact hh, r⟩
theorem RowT.alloc {w : World} {b : Nat} {v : Value} {l : List (Nat × Nat)} (h : RowT w b v l) (o : Obj) : RowT (w.alloc o) b v l := World.ownsRow.alloc h o
theorem RowT.nil (w : World) (b : Nat) : RowT w b (.slice none 0 0) [] := World.ownsRow_nil w b _ _
theorem RowT.one (w : World) (b a n : Nat) (hb : b ≤ w.heap.size) : RowT (w.alloc (.cells #[.int .u16 a, .int .i64 n] 154)) b (.slice (some ⟨w.heap.size, 0, none⟩) 1 1) [(a, n)] :=
  World.ownsRow_lit w #[.int .u16 a, .int .i64 n] 1 hb (by decide) rfl
theorem RowT.one2 (w : World) (b : Nat) {x y : Int} (a n : Nat) {B : Nat} (hB : B = w.heap.size) (hx : x = (a : Int)) (hy : y = (n : Int)) (hb : b ≤ w.heap.size) : RowT (w.alloc (.cells #[.int .u16 x, .int .i64 y] 154)) b (.slice (some ⟨B, 0, none⟩) 1 1) [(a, n)] := by
  subst hx hy hB; exact RowT.one w b a n hb
theorem RowT.lt {w : World} {b : Nat} {v : Value} {l : List (Nat × Nat)} (h : RowT w b v l) : ∀ k, v.ownBlock = some k → b ≤ k ∧ k < w.heap.size := World.ownsRow.lt h

/-- One owned row behind another. -/
theorem run_append_stems (w : World) (ty : TypeId) (b : Nat) (v : Value) (l : List (Nat × Nat)) (h : RowT w b v l) (c : Nat) (u : Value) (k : List (Nat × Nat)) (hk : RowT w c u k)
    (hb : b ≤ w.heap.size) (hsz : l.length + k.length ≤ 4294967296) :
    ∃ v' w', (Builtin.append_ #[147, 147] ty #[v, u]).run Try.prog w = .ok v' w' ∧ RowT w' b v' (l ++ k) ∧ w.grownBy w' v.ownBlock := by
  obtain ⟨i0, hi, hz0, hz1, hz2⟩ := info_parts info_st
  have hmx : l.length + k.length ≤ maxLen := by unfold maxLen; omega
  rcases hk.2 with ⟨rfl, hk0⟩ | ⟨g, cap, cur, rfl, hg, hh, hnc, hcm, hcs, htk⟩
  · have hr := run_append_owned_none (P := Try.prog) (w := w) b 147 ty 154 i0 2 Try.underlying147 hi v l.length (flatT l) h
    refine ⟨v, w, hr, ?_, ⟨rfl, rfl, rfl, Nat.le_refl _, fun _ _ _ => rfl⟩⟩
    rw [List.eq_nil_of_length_eq_zero hk0, List.append_nil]
    exact h
  · have hn := World.ownsRow.cells hk (g := g) rfl
    obtain ⟨v', w', hr, ho, hgr, _⟩ := run_append_own (P := Try.prog) w b 147 ty 154 i0 (.agg #[.int .u16 0, .int .i64 0]) 2 16 Try.underlying147 hi hz0 hz1 hz2 rfl (by decide) v l.length (flatT l) h ⟨g, 0, none⟩ k.length cap (flatT k) (flatT_length k) hn (flatT_one k) hmx (by omega) hb
    refine ⟨v', w', hr, ?_, hgr⟩
    unfold RowT
    rw [List.length_append, flatT_append]
    exact ho

theorem wp_append_stems {o : Oper} {a : Act} {w : World} {K : Act → World → Prop} {Q : Exit → Act → World → Prop} (s x : Operand)
    (ho : o.op = .call { callee := .builtin .append, args := #[s, x], argTypes := #[147, 147] })
    (b : Nat) (v : Value) (l : List (Nat × Nat)) (hs : a.eval s = v) (h : RowT w b v l) (c : Nat) (u : Value) (k : List (Nat × Nat)) (hx : a.eval x = u) (hk : RowT w c u k)
    (hb : b ≤ w.heap.size) (hsz : l.length + k.length ≤ 4294967296)
    (hK : ∀ v' w', RowT w' b v' (l ++ k) → w.grownBy w' v.ownBlock → K (a.put o.dst v') w') : o.wp Try.prog a w K Q := by
  obtain ⟨v', w', hr, h2, h3⟩ := run_append_stems w o.type b v l h c u k hk hb hsz
  unfold Oper.wp execOp
  simp only [ho, resolve, invoke, builtin, Sem.run_bind, Sem.run_pure, Result.andThen_ok, List.map_toArray, List.map_cons, List.map_nil, hs, hx, hr]
  exact hK v' w' h2 h3
theorem wpList_append_stems {ops : Array Oper} {rest : List Oper} {o : Oper} {a : Act} {w : World} {Q : Exit → Act → World → Prop} (hgd : o.guard = none) (s x : Operand)
    (ho : o.op = .call { callee := .builtin .append, args := #[s, x], argTypes := #[147, 147] })
    (b : Nat) (v : Value) (l : List (Nat × Nat)) (hs : a.eval s = v) (h : RowT w b v l) (c : Nat) (u : Value) (k : List (Nat × Nat)) (hx : a.eval x = u) (hk : RowT w c u k)
    (hb : b ≤ w.heap.size) (hsz : l.length + k.length ≤ 4294967296)
    (hK : ∀ v' w', RowT w' b v' (l ++ k) → w.grownBy w' v.ownBlock → wpList Try.prog ops Q rest (a.put o.dst v') w') : wpList Try.prog ops Q (o :: rest) a w :=
  wpList_plain hgd fun _ hK' => wp_append_stems s x ho b v l hs h c u k hx hk hb hsz fun v' w' h2 h3 => hK' _ _ (hK v' w' h2 h3)
/-- What a row looks like. -/
theorem RowT.form {w : World} {b : Nat} {v : Value} {l : List (Nat × Nat)} (h : RowT w b v l) :
    ∃ (ad : Option Addr) (cap : Nat), v = .slice ad l.length cap ∧ l.length ≤ cap ∧ (0 < l.length → ∃ g, ad = some ⟨g, 0, none⟩ ∧ b ≤ g ∧ g < w.heap.size ∧ ∀ k (hk : k < l.length), w.cell? ⟨g, k * 2, none⟩ = some (.int .u16 ((l[k]'hk).1 : Int)) ∧ w.cell? ⟨g, k * 2 + 1, none⟩ = some (.int .i64 ((l[k]'hk).2 : Int))) := by
  rcases h.2 with ⟨hv, hn⟩ | ⟨g, cap, cur, hv, hb, hg, hcap, r⟩
  · exact ⟨none, 0, by rw [hv, hn], by omega, fun h0 => by omega⟩
  · subst hv
    refine ⟨_, cap, rfl, hcap, fun _ => ⟨g, rfl, hb, (Array.getElem?_eq_some_iff.1 hg).1, fun k hk => ?_⟩⟩
    have h' : w.ownsRow b 154 2 (.slice (some ⟨g, 0, none⟩) l.length cap) l.length (flatT l) := h
    have hf := flatT_at l k hk
    exact ⟨by rw [h'.cellAt (k * 2) (by omega), hf.1], by rw [h'.cellAt (k * 2 + 1) (by omega), hf.2]⟩
theorem RowT.frozen {w : World} {b g cap n : Nat} {l : List (Nat × Nat)} (h : RowT w b (.slice (some ⟨g, 0, none⟩) n cap) l) (j : Nat) : w.frozen? ⟨g, j, none⟩ = false := by
  rcases h.2 with ⟨hv, _⟩ | ⟨g', cap', cur, hv, hb, hg, r⟩
  · cases hv
  · cases hv; simp [World.frozen?, hg]
end Go.Proofs.Ytfpmljgmfapoiaa.Xp
/-
  The document's fewest stems of a set of ports: tiled, by halves over the counts of what lies ahead.
-/
namespace Go.Proofs.Ytfpmljgmfapoiaa.Xp
open Go.RowKit
set_option linter.unusedVariables false
set_option linter.unusedSimpArgs false

/-- The counts of what lies ahead of each place, in memory. -/
def Ahead (w : World) (v : Value) (p : Nat → Bool) : Prop :=
  ∃ g, v = .slice (some ⟨g, 0, none⟩) 65537 65537 ∧ ∀ i, i ≤ 65536 → w.cell? ⟨g, i, none⟩ = some (.int .i64 ((ah p i : Nat) : Int))
theorem Ahead.on {w w1 : World} {v : Value} {p : Nat → Bool} (h : Ahead w v p) (hb : Below w.heap.size w w1) : Ahead w1 v p := by
  obtain ⟨g, hv, hc⟩ := h
  exact ⟨g, hv, fun i hi => cell_on1 hb (hc i hi)⟩
end Go.Proofs.Ytfpmljgmfapoiaa.Xp
/-
  What the small functions of package span hand back: one contract a function, for every world; each makes memory of its own alone.
-/
namespace Go.Proofs.Ytfpmljgmfapoiaa.Xp
open Go.RowKit
set_option linter.unusedVariables false
set_option linter.unusedSimpArgs false

def chkS (a b : Nat) : Int := if b < a then 30 else 0
theorem checkS (a b : Nat) (w : World) :
    Calls Try.prog 67 #[.agg #[.int .u16 a, .int .u16 b]] w fun e w' => e = .returned (.int .i64 (chkS a b)) ∧ Below w.heap.size w w' := by
  by_cases h : b < a
  · rw [show chkS a b = 30 from if_pos h]
    have h' : (b : Int) < (a : Int) := by omega
    clear h
    go_enter Try.func67, Try.ntmps67
    go_wp2
    go_ret
    exact ⟨rfl, by (repeat (first | assumption | exact Below.refl _ _ | refine Below.drew ?_ | refine bel_drewN ?_ _ | refine Below.setCell ?_ (by first | omega | (simp; done) | (simp; omega)) _ | refine Below.alloc ?_ (by first | omega | (simp; done) | (simp; omega)) _ | refine bel_of ?_ (by assumption)))⟩
  · rw [show chkS a b = 0 from if_neg h]
    have h' : ¬ (b : Int) < (a : Int) := by omega
    clear h
    go_enter Try.func67, Try.ntmps67
    go_wp2
    go_ret
    exact ⟨rfl, by (repeat (first | assumption | exact Below.refl _ _ | refine Below.drew ?_ | refine bel_drewN ?_ _ | refine Below.setCell ?_ (by first | omega | (simp; done) | (simp; omega)) _ | refine Below.alloc ?_ (by first | omega | (simp; done) | (simp; omega)) _ | refine bel_of ?_ (by assumption)))⟩
end Go.Proofs.Ytfpmljgmfapoiaa.Xp
/-
  Meet, Within, Compare of package span and of the document's answer.
-/
namespace Go.Proofs.Ytfpmljgmfapoiaa.Xp
open Go.RowKit
set_option linter.unusedVariables false
set_option linter.unusedSimpArgs false

def cmpI (x y : Nat × Nat) : Int := if x = y then 0 else if x.1 < y.1 ∨ (x.1 = y.1 ∧ x.2 < y.2) then -1 else 1

end Go.Proofs.Ytfpmljgmfapoiaa.Xp
/-
  Lists of spans in memory; 'append' of one owned row to another.
-/
namespace Go.Proofs.Ytfpmljgmfapoiaa.Xp
open Go.RowKit
set_option linter.unusedVariables false
set_option linter.unusedSimpArgs false

def flat : List (Nat × Nat) → List Value
  | [] => []
  | p :: l => .int .u16 p.1 :: .int .u16 p.2 :: flat l
theorem flat_at : ∀ (l : List (Nat × Nat)) (i : Nat) (h : i < l.length), (flat l)[i * 2]? = some (.int .u16 ((l[i]'h).1 : Int)) ∧ (flat l)[i * 2 + 1]? = some (.int .u16 ((l[i]'h).2 : Int))
  | p :: l, 0, _ => ⟨rfl, rfl⟩
  | p :: l, i + 1, h => by
    have := flat_at l i (by simpa using h)
    rw [show (i + 1) * 2 = i * 2 + 2 by omega]
    exact this

/-- The row v of w holds the list. -/
def Row (w : World) (base : Nat) (v : Value) (l : List (Nat × Nat)) : Prop := w.ownsRow base 56 2 v l.length (flat l)
theorem Row.base {w : World} {b b' : Nat} {v : Value} {l : List (Nat × Nat)} (h : Row w b v l) (hb : b' ≤ b) : Row w b' v l := by
  refine ⟨h.1, ?_⟩
  rcases h.2 with h2 | ⟨g, cap, cur, hv, hg, r⟩
  · exact .inl h2
  · exact .inr ⟨g, cap, cur, hv, by omega, r⟩
theorem Row.on {w w1 : World} {b : Nat} {v : Value} {l : List (Nat × Nat)} (h : Row w b v l) (hb : Below w.heap.size w w1) : Row w1 b v l := by
  refine ⟨h.1, ?_⟩
  rcases h.2 with h2 | ⟨g, cap, cur, hv, hg, hh, r⟩
  · exact .inl h2
  · exact .inr ⟨g, cap, cur, hv, hg, by rw [hb.block g (Array.getElem?_eq_some_iff.1 hh).1]; exact hh, r⟩
theorem Row.alloc {w : World} {b : Nat} {v : Value} {l : List (Nat × Nat)} (h : Row w b v l) (o : Obj) : Row (w.alloc o) b v l := World.ownsRow.alloc h o
theorem Row.nil (w : World) (b : Nat) : Row w b (.slice none 0 0) [] := World.ownsRow_nil w b _ _
theorem Row.one (w : World) (b a n : Nat) (hb : b ≤ w.heap.size) : Row (w.alloc (.cells #[.int .u16 a, .int .u16 n] 56)) b (.slice (some ⟨w.heap.size, 0, none⟩) 1 1) [(a, n)] :=
  World.ownsRow_lit w #[.int .u16 a, .int .u16 n] 1 hb (by decide) rfl
theorem Row.one2 (w : World) (b : Nat) {x y : Int} (a n : Nat) {B : Nat} (hB : B = w.heap.size) (hx : x = (a : Int)) (hy : y = (n : Int)) (hb : b ≤ w.heap.size) : Row (w.alloc (.cells #[.int .u16 x, .int .u16 y] 56)) b (.slice (some ⟨B, 0, none⟩) 1 1) [(a, n)] := by
  subst hx hy hB; exact Row.one w b a n hb
theorem Row.lt {w : World} {b : Nat} {v : Value} {l : List (Nat × Nat)} (h : Row w b v l) : ∀ k, v.ownBlock = some k → b ≤ k ∧ k < w.heap.size := World.ownsRow.lt h

theorem cell_on {W w1 : World} (hb : Below W.heap.size W w1) {p : Addr} {v : Value} (h : W.cell? p = some v) : w1.cell? p = some v := by rw [hb.cell (World.block_lt_of_cell? W p h)]; exact h
theorem cell_alloc {w : World} {p : Addr} {v : Value} {o : Obj} (h : w.cell? p = some v) : (w.alloc o).cell? p = some v := cell_on ((Below.refl _ _).alloc (Nat.le_refl _) o) h
/-- What a row looks like. -/
theorem Row.form {w : World} {b : Nat} {v : Value} {l : List (Nat × Nat)} (h : Row w b v l) :
    ∃ (ad : Option Addr) (cap : Nat), v = .slice ad l.length cap ∧ l.length ≤ cap ∧ (0 < l.length → ∃ g, ad = some ⟨g, 0, none⟩ ∧ b ≤ g ∧ g < w.heap.size ∧ ∀ k (hk : k < l.length), w.cell? ⟨g, k * 2, none⟩ = some (.int .u16 ((l[k]'hk).1 : Int)) ∧ w.cell? ⟨g, k * 2 + 1, none⟩ = some (.int .u16 ((l[k]'hk).2 : Int))) := by
  rcases h.2 with ⟨hv, hn⟩ | ⟨g, cap, cur, hv, hb, hg, hcap, r⟩
  · exact ⟨none, 0, by rw [hv, hn], by omega, fun h0 => by omega⟩
  · subst hv
    refine ⟨_, cap, rfl, hcap, fun _ => ⟨g, rfl, hb, (Array.getElem?_eq_some_iff.1 hg).1, fun k hk => ?_⟩⟩
    have h' : w.ownsRow b 56 2 (.slice (some ⟨g, 0, none⟩) l.length cap) l.length (flat l) := h
    have hf := flat_at l k hk
    exact ⟨by rw [h'.cellAt (k * 2) (by omega), hf.1], by rw [h'.cellAt (k * 2 + 1) (by omega), hf.2]⟩
theorem Row.frozen {w : World} {b g cap n : Nat} {l : List (Nat × Nat)} (h : Row w b (.slice (some ⟨g, 0, none⟩) n cap) l) (j : Nat) : w.frozen? ⟨g, j, none⟩ = false := by
  rcases h.2 with ⟨hv, _⟩ | ⟨g', cap', cur, hv, hb, hg, r⟩
  · cases hv
  · cases hv; simp [World.frozen?, hg]
end Go.Proofs.Ytfpmljgmfapoiaa.Xp
/-
  A list of spans that is read; the document's Same of two lists that are the same.
-/
namespace Go.Proofs.Ytfpmljgmfapoiaa.Xp
open Go.RowKit
set_option linter.unusedVariables false
set_option linter.unusedSimpArgs false

/-- The slice v of w reads as the list. -/
def Src (w : World) (v : Value) (l : List (Nat × Nat)) : Prop :=
  ∃ (ad : Option Addr) (cap : Nat), v = .slice ad l.length cap ∧ (0 < l.length → ∃ g off, ad = some ⟨g, off, none⟩ ∧ ∀ j u, (flat l)[j]? = some u → w.cell? ⟨g, off + j, none⟩ = some u)
theorem Row.src {w : World} {b : Nat} {v : Value} {l : List (Nat × Nat)} (h : Row w b v l) : Src w v l := by
  rcases h.2 with ⟨hv, hn⟩ | ⟨g, cap, cur, hv, hb, hg, r⟩
  · exact ⟨none, 0, by rw [hv, hn], fun h0 => by omega⟩
  · subst hv
    refine ⟨_, cap, rfl, fun _ => ⟨g, 0, rfl, fun j u hu => ?_⟩⟩
    have := World.ownsRow.cells h (g := g) rfl j u hu
    rwa [Addr.add_lit] at this
theorem Src.keep {w w1 : World} {v : Value} {l : List (Nat × Nat)} (h : Src w v l) (hb : Below w.heap.size w w1) : Src w1 v l := by
  obtain ⟨ad, cap, rfl, h2⟩ := h
  refine ⟨ad, cap, rfl, fun h0 => ?_⟩
  obtain ⟨g, off, rfl, h3⟩ := h2 h0
  exact ⟨g, off, rfl, fun j u hu => by
    have := h3 j u hu
    rw [hb.cell (World.block_lt_of_cell? w _ this)]; exact this⟩
theorem Src.at {w : World} {v : Value} {l : List (Nat × Nat)} (h : Src w v l) : ∃ (ad : Option Addr) (cap : Nat), v = .slice ad l.length cap ∧
    (0 < l.length → ∃ g off, ad = some ⟨g, off, none⟩ ∧ ∀ k (hk : k < l.length), w.cell? ⟨g, off + k * 2, none⟩ = some (.int .u16 ((l[k]'hk).1 : Int)) ∧ w.cell? ⟨g, off + k * 2 + 1, none⟩ = some (.int .u16 ((l[k]'hk).2 : Int))) := by
  obtain ⟨ad, cap, rfl, h2⟩ := h
  refine ⟨ad, cap, rfl, fun h0 => ?_⟩
  obtain ⟨g, off, rfl, h3⟩ := h2 h0
  exact ⟨g, off, rfl, fun k hk => ⟨h3 _ _ (flat_at l k hk).1, by rw [Nat.add_assoc]; exact h3 _ _ (flat_at l k hk).2⟩⟩
end Go.Proofs.Ytfpmljgmfapoiaa.Xp
/-
  What the functions of expand are to hand back, each as a proposition of its own (proved of the code elsewhere).
-/
namespace Go.Proofs.Ytfpmljgmfapoiaa.Xp
open Go.RowKit
set_option linter.unusedVariables false

def OfN : Prop := ∀ (lo hi : Nat) (w : World), lo < 65536 → hi < lo →
    Calls Try.prog 74 #[.agg #[.int .u16 lo, .int .u16 hi]] w fun e w' => ∃ v' : Value, e = .returned (.tuple #[v', .int .i64 30]) ∧ RowT w' w.heap.size v' [] ∧ Below w.heap.size w w'
def OfC : Prop := ∀ (lo hi : Nat) (w : World), lo ≤ hi → hi < 65536 →
    Calls Try.prog 74 #[.agg #[.int .u16 lo, .int .u16 hi]] w fun e w' => ∃ v' : Value, e = .returned (.tuple #[v', .int .i64 0]) ∧ RowT w' w.heap.size v' (tl (hasB (lo, hi)) 16 0) ∧ Below w.heap.size w w'
def CntC : Prop := ∀ (lo hi : Nat) (w : World), lo ≤ hi → hi < 65536 →
    Calls Try.prog 56 #[.agg #[.int .u16 lo, .int .u16 hi]] w fun e w' => e = .returned (.tuple #[.int .i64 (((tl (hasB (lo, hi)) 16 0).length : Nat) : Int), .int .i64 0]) ∧ Below w.heap.size w w'
end Go.Proofs.Ytfpmljgmfapoiaa.Xp
/-
  Bits of stems.
-/
namespace Go.Proofs.Ytfpmljgmfapoiaa.Xp
open Go.RowKit
set_option linter.unusedVariables false

theorem and_low (b k : Nat) : b &&& (2 ^ k - 1) = b % 2 ^ k := Nat.and_two_pow_sub_one_eq_mod b k
end Go.Proofs.Ytfpmljgmfapoiaa.Xp
/-
  Bits of stems as the code reckons them; the greedy stems, one step. No program is named here.
-/
namespace Go.Proofs.Ytfpmljgmfapoiaa.Xp
open Go.RowKit
set_option linter.unusedVariables false

theorem tail_is (n : Nat) (h : n ≤ 16) : 65535 / 2 ^ n = 2 ^ (16 - n) - 1 :=
  (by decide +kernel : ∀ n, n < 17 → 65535 / 2 ^ n = 2 ^ (16 - n) - 1) n (by omega)
theorem tail_int (n : Nat) (h : n ≤ 16) : (65535 : Int) / 2 ^ n = ((2 ^ (16 - n) - 1 : Nat) : Int) := by
  rw [← tail_is n h]
  simp
theorem two_pos (k : Nat) : 0 < 2 ^ k := Nat.pow_pos (by decide)
theorem two_le16 {k : Nat} (h : k ≤ 16) : 2 ^ k ≤ 65536 := pow_le (f := k) (g := 16) h
/-- The mask of one bit more. -/
theorem wider_nat (j : Nat) (h : j ≤ 16) : (2 ^ j - 1) * 2 % 65536 ||| 1 = (2 ^ (j + 1) - 1) % 65536 :=
  (by decide +kernel : ∀ j, j < 17 → (2 ^ j - 1) * 2 % 65536 ||| 1 = (2 ^ (j + 1) - 1) % 65536) j (by omega)
theorem wider_lt (j : Nat) (h : j < 16) : (2 ^ (j + 1) - 1) % 65536 = 2 ^ (j + 1) - 1 :=
  (by decide +kernel : ∀ j, j < 16 → (2 ^ (j + 1) - 1) % 65536 = 2 ^ (j + 1) - 1) j h
theorem andNot_high (q k : Nat) (hq : q < 65536) (hk : k ≤ 16) : q &&& (65535 - (2 ^ k - 1)) = q / 2 ^ k * 2 ^ k := by
  have e : 65535 - (2 ^ k - 1) = (2 ^ (16 - k) - 1) <<< k :=
    (by decide +kernel : ∀ k, k < 17 → 65535 - (2 ^ k - 1) = (2 ^ (16 - k) - 1) <<< k) k (by omega)
  rw [e, ← Nat.shiftRight_eq_div_pow, ← Nat.shiftLeft_eq]
  apply Nat.eq_of_testBit_eq
  intro i
  rw [Nat.testBit_and, Nat.testBit_shiftLeft, Nat.testBit_shiftLeft, Nat.testBit_two_pow_sub_one, Nat.testBit_shiftRight]
  by_cases h1 : k ≤ i
  · by_cases h2 : i < 16
    · have a1 : decide (i ≥ k) = true := decide_eq_true h1
      have a2 : decide (i - k < 16 - k) = true := decide_eq_true (by omega)
      rw [a1, a2, show k + (i - k) = i by omega]
      simp
    · have : q.testBit i = false := Nat.testBit_lt_two_pow (Nat.lt_of_lt_of_le hq (by
        have : 2 ^ 16 ≤ 2 ^ i := Nat.pow_le_pow_right (by decide) (by omega)
        simpa using this))
      rw [show k + (i - k) = i by omega, this]
      simp
  · have a1 : decide (i ≥ k) = false := decide_eq_false (by omega)
    rw [a1]
    simp
theorem grd_len : ∀ k a n, (grd k a n).length ≤ k
  | 0, a, n => Nat.le_refl _
  | k + 1, a, n => by
    unfold grd
    split
    · exact Nat.zero_le _
    · rw [List.length_cons]
      exact Nat.succ_le_succ (grd_len k _ _)
theorem grds_len (l : List (Nat × Nat)) : (grds l).length ≤ l.length * 65536 := by
  induction l with
  | nil => exact Nat.zero_le _
  | cons s l ih =>
    have e : grds (s :: l) = grd 65536 s.1 (s.2 + 1 - s.1) ++ grds l := rfl
    rw [e, List.length_append, List.length_cons]
    have := grd_len 65536 s.1 (s.2 + 1 - s.1)
    omega
/-- What has been met, and what is to come. -/
def Gone (lo hi : Nat) (a : Nat) (pre : List (Nat × Nat)) : Prop := ∃ k, hi + 1 - a ≤ k ∧ grd 65536 lo (hi + 1 - lo) = pre ++ grd k a (hi + 1 - a)
theorem Gone.start (lo hi : Nat) (h : hi < 65536) : Gone lo hi lo [] := ⟨65536, by omega, rfl⟩
theorem Gone.step {lo hi a : Nat} {pre : List (Nat × Nat)} (h : Gone lo hi a pre) (ha : a ≤ hi) : Gone lo hi (a + 2 ^ mf a (hi + 1 - a) 16) (pre ++ [(a, 16 - mf a (hi + 1 - a) 16)]) := by
  obtain ⟨k, hk, e⟩ := h
  obtain ⟨k', rfl⟩ : ∃ k', k = k' + 1 := ⟨k - 1, by omega⟩
  rw [grd_succ k' a _ (by omega)] at e
  have hp := two_pos (mf a (hi + 1 - a) 16)
  refine ⟨k', by omega, ?_⟩
  rw [e, List.append_assoc, List.singleton_append, show hi + 1 - (a + 2 ^ mf a (hi + 1 - a) 16) = hi + 1 - a - 2 ^ mf a (hi + 1 - a) 16 by omega]
theorem Gone.done {lo hi a : Nat} {pre : List (Nat × Nat)} (h : Gone lo hi a pre) (ha : hi < a) : pre = grd 65536 lo (hi + 1 - lo) := by
  obtain ⟨k, hk, e⟩ := h
  rw [show hi + 1 - a = 0 by omega, grd_zero, List.append_nil] at e
  exact e.symm
theorem Gone.len {lo hi a : Nat} {pre : List (Nat × Nat)} (h : Gone lo hi a pre) : pre.length ≤ 65536 := by
  obtain ⟨k, hk, e⟩ := h
  have := congrArg List.length e
  rw [List.length_append] at this
  have := grd_len 65536 lo (hi + 1 - lo)
  omega
theorem mf_bd {a hi : Nat} (h : a ≤ hi) : mf a (hi + 1 - a) 16 ≤ 16 ∧ a + 2 ^ mf a (hi + 1 - a) 16 ≤ hi + 1 := by
  obtain ⟨h1, h2, h3, h4⟩ := mf_is a (hi + 1 - a) (by omega) 16
  exact ⟨h1, by omega⟩
end Go.Proofs.Ytfpmljgmfapoiaa.Xp
/-
  tail, Check, Has, Span of package expand: what they hand back.
-/
namespace Go.Proofs.Ytfpmljgmfapoiaa.Xp
open Go.RowKit
set_option linter.unusedVariables false
set_option linter.unusedSimpArgs false
attribute [local go_sem ↓] Go.wp_at_zero Go.wp_at_succ

/-- The last k bits, all set. -/
def mk (k : Nat) : Nat := 2 ^ k - 1
theorem mk_lt {k : Nat} (h : k ≤ 16) : mk k < 65536 := by
  have := two_le16 h
  have := two_pos k
  unfold mk; omega
theorem and_mk (b k : Nat) (hb : b < 65536) (hk : k ≤ 16) : bits .and .u16 (b : Int) (mk k : Int) = ((b % 2 ^ k : Nat) : Int) := by
  rw [u16_and_nat b (mk k) hb (mk_lt hk)]
  unfold mk
  rw [and_low]
theorem andNot_mk (q k : Nat) (hq : q < 65536) (hk : k ≤ 16) : bits .andNot .u16 (q : Int) (mk k : Int) = ((q / 2 ^ k * 2 ^ k : Nat) : Int) := by
  rw [u16_andNot_nat q (mk k) hq (mk_lt hk)]
  unfold mk
  rw [andNot_high q k hq hk]
theorem tailT (n : Nat) (hn : n ≤ 16) (w : World) :
    Calls Try.prog 85 #[.int .i64 n] w fun e w' => e = .returned (.int .u16 (mk (16 - n) : Int)) ∧ w' = w := by
  have h0 : (0 : Int) ≤ (n : Int) := by omega
  have h1 : (n : Int) ≤ 16 := by omega
  have ht : (65535 : Int) / 2 ^ n = (mk (16 - n) : Int) := tail_int n hn
  go_enter Try.func85, Try.ntmps85
  go_wp2
  go_ret
  exact ⟨rfl, rfl⟩
end Go.Proofs.Ytfpmljgmfapoiaa.Xp
/-
  shortest of package expand: the greatest stem from a port on, up to another.
-/
namespace Go.Proofs.Ytfpmljgmfapoiaa.Xp
open Go.RowKit
set_option linter.unusedVariables false
set_option linter.unusedSimpArgs false

theorem or_wider (j : Nat) (h : j < 16) : bits .or .u16 ((mk j : Int) * 2) 1 = (mk (j + 1) : Int) := by
  have h1 := wider_nat j (by omega)
  have h2 := mk_lt (show j + 1 ≤ 16 by omega)
  have hp := two_pos j
  have e : mk (j + 1) = mk j * 2 + 1 := by unfold mk; rw [Nat.pow_succ]; omega
  have h3 : mk j * 2 < 65536 := by omega
  have h4 := u16_or_nat (mk j * 2) 1 h3 (by decide)
  have h5 : mk j * 2 ||| 1 = mk (j + 1) := by
    have : (2 ^ j - 1) * 2 % 65536 = mk j * 2 := Nat.mod_eq_of_lt h3
    rw [this, wider_lt j h] at h1
    exact h1
  rw [h5] at h4
  simpa using h4
theorem mf_fin {a hi j : Nat} (h : a ≤ hi) (hj : j ≤ 16) (hd : 2 ^ j ∣ a ∧ 2 ^ j ≤ hi + 1 - a) (hx : j = 16 ∨ a % 2 ^ (j + 1) ≠ 0 ∨ hi - a < mk (j + 1)) : (16 : Int) - (j : Int) = ((16 - mf a (hi + 1 - a) 16 : Nat) : Int) := by
  rw [mf_uniq (f := j) (by omega) hj hd.1 hd.2]
  · omega
  · rcases hx with hx | hx | hx
    · exact .inl hx
    · exact .inr fun hc => hx (Nat.mod_eq_zero_of_dvd hc.1)
    · refine .inr fun hc => ?_
      have := two_pos (j + 1)
      unfold mk at hx
      omega
theorem mf_next {a hi j : Nat} (h : a ≤ hi) (h1 : a % 2 ^ (j + 1) = 0) (h2 : ¬ hi - a < mk (j + 1)) : 2 ^ (j + 1) ∣ a ∧ 2 ^ (j + 1) ≤ hi + 1 - a := by
  refine ⟨Nat.dvd_of_mod_eq_zero h1, ?_⟩
  have := two_pos (j + 1)
  unfold mk at h2
  omega
theorem mk_step {j : Nat} (h : j < 16) : mk j < mk (j + 1) ∧ mk (j + 1) < 65536 := by
  have hp := two_pos j
  have e : mk (j + 1) = mk j * 2 + 1 := by unfold mk; rw [Nat.pow_succ]; omega
  exact ⟨by omega, mk_lt (by omega)⟩
set_option maxHeartbeats 1000000 in
set_option maxRecDepth 20000 in
theorem shortT (a hi : Nat) (h : a ≤ hi) (hh : hi < 65536) (w : World) :
    Calls Try.prog 84 #[.int .u16 a, .int .u16 hi] w fun e w' => e = .returned (.agg #[.int .u16 (a : Nat), .int .i64 ((16 - mf a (hi + 1 - a) 16 : Nat) : Int)]) ∧ Below w.heap.size w w' := by
  have ha : a < 65536 := by omega
  go_enter Try.func84, Try.ntmps84
  go_wp2
  go_step3
  go_wp2
  go_step3
  go_wp2
  go_loopw [6] (fun bv wr => ∃ j : Nat, j ≤ 16 ∧ bv = .int .u16 (mk j : Int) ∧ wr.cell? ⟨w.heap.size + 1, 0, none⟩ = some (.int .u16 a) ∧ wr.cell? ⟨w.heap.size + 1, 1, none⟩ = some (.int .i64 (16 - (j : Int))) ∧ wr.frozen? ⟨w.heap.size + 1, 1, none⟩ = false ∧ wr.cell? ⟨w.heap.size, 0, none⟩ = some (.int .u16 0) ∧ wr.cell? ⟨w.heap.size, 1, none⟩ = some (.int .i64 0) ∧ wr.frozen? ⟨w.heap.size, 0, none⟩ = false ∧ wr.frozen? ⟨w.heap.size, 1, none⟩ = false ∧ Hid (2 ^ j ∣ a ∧ 2 ^ j ≤ hi + 1 - a) ∧ Hid (Below w.heap.size w wr)) (fun bv _ => 65535 - (intOf bv).toNat)
  case atStart => exact ⟨0, by omega, rfl, by simp [go_sem], by simp [go_sem], by simp [go_sem], by simp [go_sem], by simp [go_sem], by simp [go_sem], by simp [go_sem], ⟨by simp, by omega⟩, by show Below _ _ _; (repeat (first | assumption | exact Below.refl _ _ | refine Below.drew ?_ | refine bel_drewN ?_ _ | refine Below.setCell ?_ (by first | omega | (simp; done) | (simp; omega)) _ | refine Below.alloc ?_ (by first | omega | (simp; done) | (simp; omega)) _ | refine bel_of ?_ (by assumption)))⟩
  case round =>
    obtain ⟨j, hj, rfl, c0, c1, f1, r0, r1, g0, g1, hd, hb⟩ := hrel
    have hlt : (mk j : Int) < 65536 := by have := mk_lt hj; omega
    have h0 : (0 : Int) ≤ (mk j : Int) := by omega
    by_cases h16 : j = 16
    · have e16 : (mk j : Int) = 65535 := by rw [h16]; rfl
      have hO : bits .or .u16 65534 1 = 65535 := by decide +kernel
      have HF : Hid ((16 : Int) - (j : Int) = ((16 - mf a (hi + 1 - a) 16 : Nat) : Int)) := mf_fin h hj hd.out (.inl h16)
      clear h16
      rw [e16]
      go_wp2
      rw [Exit.noGoto_ret]
      exact bodyPost_ret (v := .agg #[.int .u16 (a : Nat), .int .i64 (16 - (j : Int))]) (by simp [results, Try.results84, go_sem, *]) rfl ⟨by rw [HF.out], by have := hb.out; (repeat (first | assumption | exact Below.refl _ _ | refine Below.drew ?_ | refine bel_drewN ?_ _ | refine Below.setCell ?_ (by first | omega | (simp; done) | (simp; omega)) _ | refine Below.alloc ?_ (by first | omega | (simp; done) | (simp; omega)) _ | refine bel_of ?_ (by assumption)))⟩
    · have hj' : j < 16 := by omega
      have ⟨s1, s2⟩ := mk_step hj'
      have hO := or_wider j hj'
      have hA := and_mk a (j + 1) ha (by omega)
      have hx1 : a % 2 ^ (j + 1) = 0 → ¬ hi - a < mk (j + 1) → Hid (2 ^ (j + 1) ∣ a ∧ 2 ^ (j + 1) ≤ hi + 1 - a) := fun h1 h2 => mf_next h h1 h2
      have hx2 : a % 2 ^ (j + 1) ≠ 0 ∨ hi - a < mk (j + 1) → Hid ((16 : Int) - (j : Int) = ((16 - mf a (hi + 1 - a) 16 : Nat) : Int)) := fun h1 => mf_fin h hj hd.out (.inr h1)
      have h2 : (mk j : Int) * 2 < 65536 := by
        have hp := two_pos j
        have e : mk (j + 1) = mk j * 2 + 1 := by unfold mk; rw [Nat.pow_succ]; omega
        omega
      obtain ⟨y, hy⟩ : ∃ y : Nat, y = mk (j + 1) := ⟨_, rfl⟩
      obtain ⟨q, hq⟩ : ∃ q : Nat, q = mk j := ⟨_, rfl⟩
      obtain ⟨x, hx⟩ : ∃ x : Nat, x = a % 2 ^ (j + 1) := ⟨_, rfl⟩
      rw [← hy, ← hx] at hx1 hx2 hA
      rw [← hy, ← hq] at hO s1
      rw [← hy] at s2
      rw [← hq] at h2 hlt h0 ⊢
      have HY : Hid (y = mk (j + 1)) := hy
      clear hy hq hx
      have e16 : (q : Int) < 65535 := by omega
      have e17 : ((q : Int) == 65535) = false := by rw [beq_eq_false_iff_ne]; omega
      have e18 : ¬ q = 65535 := by omega
      have hW : IntKind.u16.wrap ((q : Int) * 2) = (q : Int) * 2 := by
        simp [IntKind.wrap, IntKind.signed, IntKind.bits]
        omega
      have hha : (a : Int) ≤ (hi : Int) := by omega
      have hs2 : (y : Int) < 65536 := by omega
      have hs1 : (q : Int) < (y : Int) := by omega
      by_cases hx : x = 0
      · subst hx
        have hA' : bits .and .u16 (a : Int) (y : Int) = 0 := hA
        clear hA
        by_cases hy : hi - a < y
        · have HF := hx2 (.inr hy)
          have hy' : (hi : Int) - (a : Int) < (y : Int) := by omega
          clear hx1 hx2 hy s1 s2 hd hj' h hh ha
          go_wp2
          rw [Exit.noGoto_ret]
          exact bodyPost_ret (v := .agg #[.int .u16 (a : Nat), .int .i64 (16 - (j : Int))]) (by simp [results, Try.results84, go_sem, *]) rfl ⟨by rw [HF.out], by have := hb.out; (repeat (first | assumption | exact Below.refl _ _ | refine Below.drew ?_ | refine bel_drewN ?_ _ | refine Below.setCell ?_ (by first | omega | (simp; done) | (simp; omega)) _ | refine Below.alloc ?_ (by first | omega | (simp; done) | (simp; omega)) _ | refine bel_of ?_ (by assumption)))⟩
        · have HF := hx1 rfl hy
          have hy' : (y : Int) ≤ (hi : Int) - (a : Int) := by omega
          have hy2 : ¬ (hi : Int) - (a : Int) < (y : Int) := by omega
          have hj0 : (j : Int) < 16 := by omega
          have hhi : (hi : Int) < 65536 := by omega
          have ha0 : (0 : Int) ≤ (a : Int) := by omega
          have hj1 : (0 : Int) ≤ (j : Int) := by omega
          clear hx1 hx2 hy s1 s2 h hh ha
          go_wp2
          go_roundw
          case rel =>
            rw [show (16 : Int) - (j : Int) - 1 = 16 - ((j + 1 : Nat) : Int) by omega]
            exact ⟨j + 1, by omega, by rw [HY.out], (World.cell?_setCell_other _ _ _ _ (by simp)).trans c0, World.cell?_setCell_same _ _ _ c1, by rw [World.frozen?_setCell]; exact f1, (World.cell?_setCell_other _ _ _ _ (by simp)).trans r0, (World.cell?_setCell_other _ _ _ _ (by simp)).trans r1, by rw [World.frozen?_setCell]; exact g0, by rw [World.frozen?_setCell]; exact g1, HF, by show Below _ _ _; have := hb.out; (repeat (first | assumption | exact Below.refl _ _ | refine Below.drew ?_ | refine bel_drewN ?_ _ | refine Below.setCell ?_ (by first | omega | (simp; done) | (simp; omega)) _ | refine Below.alloc ?_ (by first | omega | (simp; done) | (simp; omega)) _ | refine bel_of ?_ (by assumption)))⟩
          case measure => simp [intOf]; omega
      · have HF := hx2 (.inl hx)
        have hne2 : (0 : Int) < (x : Int) := by omega
        have hne3 : ((x : Int) != 0) = true := by simpa using hx
        have hne4 : ¬ x = 0 := hx
        clear hx1 hx2 hx s1 s2 h hh ha
        go_wp2
        rw [Exit.noGoto_ret]
        exact bodyPost_ret (v := .agg #[.int .u16 (a : Nat), .int .i64 (16 - (j : Int))]) (by simp [results, Try.results84, go_sem, *]) rfl ⟨by rw [HF.out], by have := hb.out; (repeat (first | assumption | exact Below.refl _ _ | refine Below.drew ?_ | refine bel_drewN ?_ _ | refine Below.setCell ?_ (by first | omega | (simp; done) | (simp; omega)) _ | refine Below.alloc ?_ (by first | omega | (simp; done) | (simp; omega)) _ | refine bel_of ?_ (by assumption)))⟩
end Go.Proofs.Ytfpmljgmfapoiaa.Xp
