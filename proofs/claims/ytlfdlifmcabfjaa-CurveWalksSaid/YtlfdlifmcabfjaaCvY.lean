/-
  The walk of any order, as the law goes through it.
-/
import Derived.Test.YtlfdlifmcabfjaaCvV
import Derived.Test.YtlfdlifmcabfjaaCvH
namespace Go.Proofs.Ytlfdlifmcabfjaa
open Go.RowKit Go.Shelf
set_option linter.unusedVariables false
set_option linter.unusedSimpArgs false
attribute [local go_sem] Oper.semAt_some run_store_float

theorem eq_nilF (gf : Nat) (lb : Array Value) (w : World) : Sem.run Try.prog (binOp .eql 42 (.func (.func gf) #[] lb) .nilFunc) w = .ok (.bool false) w := by
  have h : ∀ d, Sem.run Try.prog (Op.equalIn (d + 1) 42 (.func (.func gf) #[] lb) .nilFunc) w = .ok false w := fun d => by
    rw [Op.equalIn]
    simp [go_sem, run_underlying Try.underlying42]
  have h2 : Sem.run Try.prog (Op.equal 42 (.func (.func gf) #[] lb) .nilFunc) w = .ok false w := h 9999
  simp [binOp, go_sem, h2]
/-- The iterator gf hands D, whatever else is done, while the blocks P stay. -/
def ItC (n gf : Nat) (lb : Array Value) (P : Nat → Prop) (D : List (SQ n)) (W1 : World) : Prop :=
  (∀ args w, (callFunc gf args).run Try.prog w = .ok (.enter gf args) w) ∧ ∀ V, Kpt P W1 V → SeqX Fence.wide Try.prog gf lb (encC (n := n)) (Kpt P) (fun ys => ys = D) (fun pre => pre <+: D) D.length V
theorem walk_ok (n : Nat) (h1 : 1 ≤ n) (h2 : n ≤ 16) (w : World) : Calls Try.prog 17 #[.int .i64 (n : Int)] w fun e w' => ∃ lb P, e = .returned (.func (.func 43) #[] lb) ∧ Below w.heap.size w w' ∧ (∀ k, P k → w.heap.size ≤ k ∧ k < w'.heap.size) ∧ ItC n 43 lb P (wlk n) w' := by
  go_enter Try.func17, Try.ntmps17
  go_wp2_with (fail)
  refine (isOrder_yes _ _ (by omega) (by omega)).mono ?_
  rintro e w' ⟨rfl, hw⟩; obtain rfl := hw.symm; clear hw
  go_wp2_with (fail)
  refine (walkC _ _).mono ?_
  rintro e w' ⟨rfl, hw⟩
  have hb : Below w.heap.size w w' := by rw [hw]; exact (Below.refl _ _).alloc (Nat.le_refl _) _
  have hB : w'.heap[w.heap.size]? = some (.cells #[.int .i64 (n : Int)] 3) := by rw [hw]; exact blk_new w _
  have hl := blk_lt hB
  clear hw
  go_wp2_with (fail)
  go_ret
  refine ⟨_, fun q => q = w.heap.size, rfl, hb, fun k hk => (by subst hk; exact ⟨Nat.le_refl _, hl⟩), enters_of Try.func43 (by kernel_rfl) rfl, fun V hV => walk_seq (walk_all n h2) _ _ V (fun k hk => by subst hk; exact Nat.lt_of_lt_of_le hl hV.1) rfl (by rw [hV.2 _ rfl]; exact hB)⟩
theorem none_seq (P : Nat → Prop) (w : World) : SeqX Fence.wide Try.prog 33 #[] (encC (n := 0)) (Kpt P) (fun ys => ys = []) (fun pre => pre <+: []) ([] : List (SQ 0)).length w := fun l m U J Jx V hV hl hU hUV hJ hJx hY h0 => by
  refine callsIn_of_wp Try.func33 rfl trivial ?_ rfl
  simp only [Try.ntmps33, List.size_toArray, List.length_cons, List.length_nil, Nat.reduceAdd, Nat.reduceSub, Array.replicate_succ, Array.replicate_zero, List.push_toArray, List.append_toArray, List.nil_append, List.cons_append]
  have HJ : Hid (J [] V) := h0
  clear h0 hY
  gi_wp2_with (fail)
  go_end0
  exact ⟨⟨_, rfl⟩, .inl ⟨_, rfl, HJ.out⟩⟩
theorem walk_none (n : Int) (h : n < 1 ∨ 16 < n) (w : World) : Calls Try.prog 17 #[.int .i64 n] w fun e w' => ∃ lb P, e = .returned (.func (.func 33) #[] lb) ∧ Below w.heap.size w w' ∧ (∀ k, P k → w.heap.size ≤ k ∧ k < w'.heap.size) ∧ ItC 0 33 lb P [] w' := by
  go_enter Try.func17, Try.ntmps17
  go_wp2_with (fail)
  refine (isOrder_no _ _ h).mono ?_
  rintro e w' ⟨rfl, hw⟩; obtain rfl := hw.symm; clear hw
  go_wp2_with (fail)
  go_ret
  exact ⟨#[], fun _ => False, rfl, Below.refl _ _, fun k hk => hk.elim, enters_of Try.func33 (by kernel_rfl) rfl, fun V hV => none_seq _ V⟩
/-- A loop over such an iterator within a round of another one. -/
theorem wlk_in (s d : Nat) (U : World → Nat → Prop) {n gf l₀ : Nat} {g : Operand} {assign body : Code} {Q : Exit → Act → World → Prop} {a : Act} {w : World} {lb : Array Value} (hU : Stab w.heap.size U) (hUw : ∀ k, U w k → k < w.heap.size) (hl₀ : ∃ r, w.heap[l₀]? = some (.loop r)) (hg : a.eval g = .func (.func gf) #[] lb) (eg : ∀ args w, (callFunc gf args).run Try.prog w = .ok (.enter gf args) w)
    {S Sp : List (SQ n) → Prop} {N : Nat} {P : Nat → Prop} (hP : ∀ k, P k → k < w.heap.size) (hseq : SeqX Fence.wide Try.prog gf lb (encC (n := n)) (Kpt P) S Sp N w)
    (I : List (SQ n) → World → Prop) (Ix : Code → List (SQ n) → World → Prop) (hI : OwnFrom w.heap.size I) (hIx : ∀ c, OwnFrom w.heap.size (Ix c)) (h0 : I [] w)
    (hassign : ∀ (l : Nat) (x : SQ n) (V : World) (K : Act → World → Prop),
      (K { tmps := (a.tmps.setIfInBounds s (CX x.1.1 x.1.2)).setIfInBounds d (CX x.1.1 x.1.2), defers := [] } V) →
      assign.wpIn (Fence.wide.inRound l) 7 Try.prog (Exit.then K (fun _ _ _ => False)) { tmps := a.tmps.setIfInBounds s (CX x.1.1 x.1.2), defers := [] } V)
    (hbody : ∀ (l : Nat) (pre : List (SQ n)) (x : SQ n) (V : World), w.heap.size ≤ l → (∃ r, V.heap[l]? = some (.loop r)) → w.heap.size ≤ V.heap.size → I pre V → pre.length < N →
      body.wpIn (Fence.wide.inRound l) 7 Try.prog (ownPostU w.heap.size U (Kpt P) I Ix (pre ++ [x]) V) { tmps := (a.tmps.setIfInBounds s (CX x.1.1 x.1.2)).setIfInBounds d (CX x.1.1 x.1.2), defers := [] } V)
    (hdone : ∀ (xs : List (SQ n)) (V : World), S xs → I xs V → Q .normal a V)
    (hstop : ∀ (c : Code) (pre : List (SQ n)) (V : World), Sp pre → Ix c pre V → c.wpIn (Fence.wide.inRound l₀) 7 Try.prog Q a V) :
    (Code.rangeFunc g #[s] assign body).wpIn (Fence.wide.inRound l₀) 7 Try.prog Q a w := by
  obtain ⟨r₀, hl₀⟩ := hl₀
  refine range_inX (F := Fence.wide.inRound l₀) (n := 7) (nn := 7) (l₀ := l₀) U hU hUw rfl rfl hl₀ hg trivial eg hseq kpt_t (kpt_b hP) (Below.refl _ _) (fun _ => rfl) I Ix hI hIx h0
    (fun x a' _ => a' = { tmps := (a.tmps.setIfInBounds s (CX x.1.1 x.1.2)).setIfInBounds d (CX x.1.1 x.1.2), defers := [] })
    (fun _ _ _ _ _ _ hs _ _ => hs) ?_ ?_ hdone hstop
  · intro l pre x V K hi hz hK
    have hfold : Array.foldl (fun (t : Array Value) (x : Nat × Value) => match x with | (p, v) => t.setIfInBounds p v) a.tmps ((#[s] : Array Nat).zip (encC x)) = a.tmps.setIfInBounds s (CX x.1.1 x.1.2) := by simp [encC]
    have hgo := hassign l x V K (hK _ _ (RK.refl _) (kpt_r _) hi rfl)
    rw [← hfold] at hgo; exact hgo
  · rintro l pre x a' V hl hr hz hi rfl hN
    exact hbody l pre x V hl hr hz hi hN
/-- What stands in the law's own blocks. -/
structure Cs (w W1 : World) (P : Nat → Prop) (o ev : Int) (sv : Value) (V : World) : Prop where
  o : V.heap[w.heap.size]? = some (.cells #[.int .i64 o] 3)
  e : V.heap[w.heap.size + 1]? = some (.cells #[.int .i64 ev] 3)
  r : V.heap[w.heap.size + 1 + 1]? = some (.cells #[.bool false] 4)
  s : V.heap[W1.heap.size]? = some (.cells #[sv] 42)
  b : Below w.heap.size w V
  kp : Kpt P W1 V
section
variable {w W1 V V' : World} {P : Nat → Prop} {o ev : Int} {sv : Value}
theorem Cs.on (h : Cs w W1 P o ev sv V) (hP : ∀ k, P k → k < W1.heap.size) (hb : Below V.heap.size V V') : Cs w W1 P o ev sv V' :=
  ⟨blk_on h.o hb, blk_on h.e hb, blk_on h.r hb, blk_on h.s hb, h.b.trans (hb.mono h.b.size), kpt_t h.kp (kpt_on hP h.kp.1 hb)⟩
theorem Cs.grown {row : Option Nat} {B : Nat} (h : Cs w W1 P o ev sv V) (hP : ∀ k, P k → k < W1.heap.size) (hB : W1.heap.size ≤ B) (hw : w.heap.size ≤ B) (hg : V.grownBy V' row) (hr : ∀ r, row = some r → B ≤ r ∧ ∃ o : Obj, V.heap[r]? = some o ∧ o.isCells = false) : Cs w W1 P o ev sv V' := by
  have hr' : ∀ r, row = some r → ∃ o : Obj, V.heap[r]? = some o ∧ o.isCells = false := fun r e => (hr r e).2
  exact ⟨blk_kept h.o hg hr', blk_kept h.e hg hr', blk_kept h.r hg hr', blk_kept h.s hg hr', h.b.grown hg (by have := h.b.size; omega) (fun k e => by have := (hr k e).1; omega),
    kpt_t h.kp ⟨hg.size, fun q hq => hg.block q (by have := hP q hq; have := h.kp.1; omega) (fun e => by have := (hr q e.symm).1; have := hP q hq; omega)⟩⟩
theorem Cs.far {X : Nat} {u : Value} (h : Cs w W1 P o ev sv V) (hP : ∀ k, P k → k < W1.heap.size) (hw : w.heap.size + 1 + 1 < W1.heap.size) (hX : W1.heap.size < X) : Cs w W1 P o ev sv (V.setCell ⟨X, 0, none⟩ u) :=
  ⟨blk_far h.o (by omega) _, blk_far h.e (by omega) _, blk_far h.r (by omega) _, blk_far h.s (by omega) _, h.b.setCell (p := ⟨X, 0, none⟩) (by show w.heap.size ≤ X; omega) _, kpt_t h.kp (kpt_set V X 0 u (fun e => by have := hP _ e; omega))⟩
end
theorem cs_new {w W1 X : World} {P : Nat → Prop} {o ev : Int} {sv : Value} (hz : X.heap.size = W1.heap.size) (k0 : X.heap[w.heap.size]? = some (.cells #[.int .i64 o] 3)) (k1 : X.heap[w.heap.size + 1]? = some (.cells #[.int .i64 ev] 3)) (k2 : X.heap[w.heap.size + 1 + 1]? = some (.cells #[.bool false] 4)) (hb : Below w.heap.size w X) (hk : Kpt P W1 X) (hP : ∀ k, P k → k < W1.heap.size) : Cs w W1 P o ev sv (X.alloc (.cells #[sv] 42)) := by
  have bA : Below X.heap.size X (X.alloc (.cells #[sv] 42)) := (Below.refl _ _).alloc (Nat.le_refl _) _
  exact ⟨blk_alloc k0 _, blk_alloc k1 _, blk_alloc k2 _, by rw [← hz]; exact blk_new X _, hb.trans (bA.mono hb.size), kpt_t hk (kpt_on hP (by omega) bA)⟩
theorem pre_at {n : Nat} {D : List (SQ n)} {pre : List (SQ n)} {x : SQ n} (hp : pre ++ [x] <+: D) (hl : pre.length < D.length) : x = D[pre.length]'hl := by
  obtain ⟨rest, hr⟩ := hp
  simp [← hr]
def CFr (f : Nat → Value) (o ea : Int) (w0 S : Nat) (k : Nat) : Array Value := #[.int .i64 o, .int .i64 ea, .pointer (some ⟨w0, 0, none⟩), .pointer (some ⟨w0 + 1, 0, none⟩), .pointer (some ⟨w0 + 1 + 1, 0, none⟩), .pointer (some ⟨S, 0, none⟩), .int .i64 (k : Int), f 7, f 8, f 9, f 10, f 11, f 12, f 13, f 14, f 15, f 16, f 17, f 18, f 19, f 20, f 21, f 22, f 23, f 24, f 25, f 26, f 27, f 28, f 29, f 30, f 31, f 32, f 33, f 34, f 35, f 36, f 37, f 38, f 39, f 40, f 41, f 42, f 43, f 44, f 45, f 46, f 47, f 48, f 49, f 50, f 51, f 52, f 53, f 54, f 55, f 56, f 57, f 58, f 59, f 60, f 61, f 62, f 63, f 64, f 65, f 66, f 67, f 68, f 69, f 70]
end Go.Proofs.Ytlfdlifmcabfjaa
