/-
  A range over the iterator of Above whose variable is boxed: at the top, and within a round of another.
-/
import Derived.Test.YthmekipdhlipbaaPxRab
namespace Go.Proofs.Ythmekipdhlipbaa
open Go.RowKit Go.Shelf
set_option linter.unusedVariables false
set_option linter.unusedSimpArgs false
attribute [local go_sem] Oper.semAt_some

/-- A loop over that iterator whose variable is boxed (slot bx, handed in slot sl): the frame of a round, written over the frame where the loop begins. -/
theorem range_top (sl bx : Nat) {g : Operand} {assign body : Code} {Q : Exit → Act → World → Prop} {a : Act} {w : World} {lb : Array Value} (hg : a.eval g = .func (.func 37) #[] lb)
    {S Sp : List Pxx → Prop} {N n₀ : Nat} (hn₀ : n₀ ≤ w.heap.size) (hseq : SeqStopsK Fence.wide 8 Try.prog 37 lb encP (Below n₀) S Sp N w)
    (I : List Pxx → World → Prop) (Ix : Code → List Pxx → World → Prop) (hI : OwnFrom w.heap.size I) (hIx : ∀ c, OwnFrom w.heap.size (Ix c)) (h0 : I [] w)
    (hassign : ∀ (l : Nat) (pre : List Pxx) (x : Pxx) (W : World) (K : Act → World → Prop), I pre W → w.heap.size ≤ W.heap.size →
      (K { tmps := (a.tmps.setIfInBounds sl (.agg #[.int .u32 (x.1.1 : Int), .int .i64 (x.1.2 : Int)])).setIfInBounds bx (.pointer (some ⟨W.heap.size, 0, none⟩)), defers := [] } (W.alloc (.cells #[.int .u32 (x.1.1 : Int), .int .i64 (x.1.2 : Int)] 24))) →
      assign.wpIn (Fence.wide.inRound l) 7 Try.prog (Exit.then K (fun _ _ _ => False)) { tmps := a.tmps.setIfInBounds sl (.agg #[.int .u32 (x.1.1 : Int), .int .i64 (x.1.2 : Int)]), defers := [] } W)
    (hsz : ∀ pre W, I pre W → w.heap.size ≤ W.heap.size)
    (hbody : ∀ (l : Nat) (pre : List Pxx) (x : Pxx) (Bx : Nat) (W : World), w.heap.size ≤ l → (∃ r, W.heap[l]? = some (.loop r)) → w.heap.size ≤ Bx → W.cell? ⟨Bx, 0, none⟩ = some (.int .u32 (x.1.1 : Int)) → W.cell? ⟨Bx, 1, none⟩ = some (.int .i64 (x.1.2 : Int)) → I pre W → pre.length < N →
      body.wpIn (Fence.wide.inRound l) 7 Try.prog (ownPostG w.heap.size (Below n₀) I Ix (pre ++ [x]) W) { tmps := (a.tmps.setIfInBounds sl (.agg #[.int .u32 (x.1.1 : Int), .int .i64 (x.1.2 : Int)])).setIfInBounds bx (.pointer (some ⟨Bx, 0, none⟩)), defers := [] } W)
    (hdone : ∀ (D : Nat) (xs : List Pxx) (W : World), w.heap.size ≤ D → S xs → I xs W → W.heap[D]? = some (.deferred (some [])) → Q .normal { a with defers := { target := .collected D, args := #[] } :: a.defers } W)
    (hstop : ∀ (D : Nat) (c : Code) (pre : List Pxx) (W : World), w.heap.size ≤ D → Sp pre → Ix c pre W → W.heap[D]? = some (.deferred (some [])) → c.wpIn Fence.wide 9 Try.prog Q { a with defers := { target := .collected D, args := #[] } :: a.defers } W) :
    (Code.rangeFunc g #[sl] assign body).wpIn Fence.wide 9 Try.prog Q a w := by
  refine wpIn_rangeFunc_ownH (F := Fence.wide) (n := 9) rfl (by decide) (gf := 37) (lb := lb) hg trivial (enters_of Try.func37 (by kernel_rfl) rfl) hseq belowK_t (belowK_b hn₀) (Below.refl _ _) (fun _ => rfl) I Ix hI hIx h0
    (fun x a' W => ∃ Bx, w.heap.size ≤ Bx ∧ W.cell? ⟨Bx, 0, none⟩ = some (.int .u32 (x.1.1 : Int)) ∧ W.cell? ⟨Bx, 1, none⟩ = some (.int .i64 (x.1.2 : Int)) ∧ a' = { tmps := (a.tmps.setIfInBounds sl (.agg #[.int .u32 (x.1.1 : Int), .int .i64 (x.1.2 : Int)])).setIfInBounds bx (.pointer (some ⟨Bx, 0, none⟩)), defers := [] })
    ?_ ?_ ?_ hdone hstop
  · rintro x a' s A B row ⟨Bx, h1, h2, h3, h4⟩ hg' hr
    have hr' : ∀ r, row = some r → ∃ o : Obj, A.heap[r]? = some o ∧ o.isCells = false := fun r e => (hr r e).2
    exact ⟨Bx, h1, cell_kept h2 hg' hr', cell_kept h3 hg' hr', h4⟩
  · intro l pre x W K hi hK
    have hz := hsz pre W hi
    have hfold : Array.foldl (fun (t : Array Value) (x : Nat × Value) => match x with | (p, v) => t.setIfInBounds p v) a.tmps ((#[sl] : Array Nat).zip (encP x)) = a.tmps.setIfInBounds sl (.agg #[.int .u32 (x.1.1 : Int), .int .i64 (x.1.2 : Int)]) := by simp [encP]
    have hgo := hassign l pre x W K hi hz ?_
    · rw [← hfold] at hgo; exact hgo
    refine hK _ _ ((KeepsOthers.alloc _ _).from _) ((Below.refl _ W).alloc (by omega) _) (hI.alloc _ hi) ⟨W.heap.size, hz, ?_, ?_, rfl⟩
    · simp [go_sem]
    · simp [go_sem]
  · rintro l pre x a' W hl hr hi ⟨Bx, h1, h2, h3, rfl⟩ hN
    exact hbody l pre x Bx W hl hr h1 h2 h3 hi hN
/-- Within a round: a loop over that iterator whose variable is boxed (slot bx, handed in slot sl): the frame of a round, written over the frame where the loop begins. -/
theorem range_in (l₀ : Nat) (r₀ : Loop) (sl bx : Nat) {g : Operand} {assign body : Code} {Q : Exit → Act → World → Prop} {a : Act} {w : World} {lb : Array Value} (hl₀ : w.heap[l₀]? = some (.loop r₀)) (hg : a.eval g = .func (.func 37) #[] lb)
    {S Sp : List Pxx → Prop} {N n₀ : Nat} (hn₀ : n₀ ≤ w.heap.size) (hseq : SeqStopsK (Fence.wide.inRound l₀) 6 Try.prog 37 lb encP (Below n₀) S Sp N w)
    (I : List Pxx → World → Prop) (Ix : Code → List Pxx → World → Prop) (hI : OwnFrom w.heap.size I) (hIx : ∀ c, OwnFrom w.heap.size (Ix c)) (h0 : I [] w)
    (hassign : ∀ (l : Nat) (pre : List Pxx) (x : Pxx) (W : World) (K : Act → World → Prop), I pre W → w.heap.size ≤ W.heap.size →
      (K { tmps := (a.tmps.setIfInBounds sl (.agg #[.int .u32 (x.1.1 : Int), .int .i64 (x.1.2 : Int)])).setIfInBounds bx (.pointer (some ⟨W.heap.size, 0, none⟩)), defers := [] } (W.alloc (.cells #[.int .u32 (x.1.1 : Int), .int .i64 (x.1.2 : Int)] 24))) →
      assign.wpIn ((Fence.wide.inRound l₀).inRound l) 5 Try.prog (Exit.then K (fun _ _ _ => False)) { tmps := a.tmps.setIfInBounds sl (.agg #[.int .u32 (x.1.1 : Int), .int .i64 (x.1.2 : Int)]), defers := [] } W)
    (hsz : ∀ pre W, I pre W → w.heap.size ≤ W.heap.size)
    (hbody : ∀ (l : Nat) (pre : List Pxx) (x : Pxx) (Bx : Nat) (W : World), w.heap.size ≤ l → (∃ r, W.heap[l]? = some (.loop r)) → w.heap.size ≤ Bx → W.cell? ⟨Bx, 0, none⟩ = some (.int .u32 (x.1.1 : Int)) → W.cell? ⟨Bx, 1, none⟩ = some (.int .i64 (x.1.2 : Int)) → I pre W → pre.length < N →
      body.wpIn ((Fence.wide.inRound l₀).inRound l) 5 Try.prog (ownPostG w.heap.size (Below n₀) I Ix (pre ++ [x]) W) { tmps := (a.tmps.setIfInBounds sl (.agg #[.int .u32 (x.1.1 : Int), .int .i64 (x.1.2 : Int)])).setIfInBounds bx (.pointer (some ⟨Bx, 0, none⟩)), defers := [] } W)
    (hdone : ∀ (xs : List Pxx) (W : World), S xs → I xs W → Q .normal a W)
    (hstop : ∀ (c : Code) (pre : List Pxx) (W : World), Sp pre → Ix c pre W → c.wpIn (Fence.wide.inRound l₀) 7 Try.prog Q a W) :
    (Code.rangeFunc g #[sl] assign body).wpIn (Fence.wide.inRound l₀) 7 Try.prog Q a w := by
  refine wpIn_rangeFunc_ownN (F := Fence.wide.inRound l₀) (n := 7) (l₀ := l₀) (r₀ := r₀) rfl hl₀ (by decide) (gf := 37) (lb := lb) hg trivial (enters_of Try.func37 (by kernel_rfl) rfl) hseq belowK_t (belowK_b hn₀) (Below.refl _ _) (fun _ => rfl) I Ix hI hIx h0
    (fun x a' W => ∃ Bx, w.heap.size ≤ Bx ∧ W.cell? ⟨Bx, 0, none⟩ = some (.int .u32 (x.1.1 : Int)) ∧ W.cell? ⟨Bx, 1, none⟩ = some (.int .i64 (x.1.2 : Int)) ∧ a' = { tmps := (a.tmps.setIfInBounds sl (.agg #[.int .u32 (x.1.1 : Int), .int .i64 (x.1.2 : Int)])).setIfInBounds bx (.pointer (some ⟨Bx, 0, none⟩)), defers := [] })
    ?_ ?_ ?_ hdone hstop
  · rintro x a' s A B row ⟨Bx, h1, h2, h3, h4⟩ hg' hr
    have hr' : ∀ r, row = some r → ∃ o : Obj, A.heap[r]? = some o ∧ o.isCells = false := fun r e => (hr r e).2
    exact ⟨Bx, h1, cell_kept h2 hg' hr', cell_kept h3 hg' hr', h4⟩
  · intro l pre x W K hi hK
    have hz := hsz pre W hi
    have hfold : Array.foldl (fun (t : Array Value) (x : Nat × Value) => match x with | (p, v) => t.setIfInBounds p v) a.tmps ((#[sl] : Array Nat).zip (encP x)) = a.tmps.setIfInBounds sl (.agg #[.int .u32 (x.1.1 : Int), .int .i64 (x.1.2 : Int)]) := by simp [encP]
    have hgo := hassign l pre x W K hi hz ?_
    · rw [← hfold] at hgo; exact hgo
    refine hK _ _ ((KeepsOthers.alloc _ _).from _) ((Below.refl _ W).alloc (by omega) _) (hI.alloc _ hi) ⟨W.heap.size, hz, ?_, ?_, rfl⟩
    · simp [go_sem]
    · simp [go_sem]
  · rintro l pre x a' W hl hr hi ⟨Bx, h1, h2, h3, rfl⟩ hN
    exact hbody l pre x Bx W hl hr h1 h2 h3 hi hN
end Go.Proofs.Ythmekipdhlipbaa
