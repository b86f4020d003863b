/-
  A range over an iterator that itself ranges over another: what a round leaves as it was is told to the iterator whether the round goes on or not. No program is named here.
-/
import Derived.RangeFuncNested
import Derived.RangeFuncBound
import Derived.RangeFuncCalls
import Derived.RangeFuncLeaves
import Derived.Shelf.Abstract
import Derived.Shelf.RegionOpen
import Derived.WalkKit
import Derived.OwnWalkIn
import Derived.TacticsInMore
import Derived.LoopNIn
import Derived.LoopIn
import Derived.Test.YtfbkjghipahipaaBxW
namespace Go.Proofs.Ytfbkjghipahipaa
open Go.RowKit Go.Shelf
set_option linter.unusedVariables false
set_option linter.unusedSimpArgs false

/-- What the rounds may write of blocks that were made behind the loop's start hangs on cells alone. -/
def Stab (B : Nat) (U : World → Nat → Prop) : Prop := ∀ (A C : World) (row : Option Nat) (k : Nat), B ≤ A.heap.size → A.grownBy C row → (∀ r, row = some r → ∃ o : Obj, A.heap[r]? = some o ∧ o.isCells = false) → U C k → U A k
/-- What a round leaves as it was, from block B on. -/
def RK (B : Nat) (U : World → Nat → Prop) (W W' : World) : Prop := KeepsFrom B W W' ∧ (∀ k, B ≤ k → k < W.heap.size → ¬ U W k → W'.heap[k]? = W.heap[k]?) ∧ (∀ k, U W' k → U W k ∨ (W.heap.size ≤ k ∧ k < W'.heap.size))
def noU : World → Nat → Prop := fun _ _ => False
theorem noU_stab (B : Nat) : Stab B noU := fun _ _ _ _ _ _ _ h => h
theorem RK.trans {B : Nat} {U : World → Nat → Prop} {A C E : World} (h : RK B U A C) (g : RK B U C E) : RK B U A E := by
  have hs := h.1.size
  have hs2 := g.1.size
  refine ⟨h.1.trans g.1, fun k h1 h2 h3 => ?_, fun k hk => ?_⟩
  · rw [g.2.1 k h1 (by omega) (fun e => by rcases h.2.2 k e with q | q
                                           · exact h3 q
                                           · omega), h.2.1 k h1 h2 h3]
  · rcases g.2.2 k hk with q | q
    · rcases h.2.2 k q with q | q
      · exact .inl q
      · right; omega
    · right; omega
theorem rk_lt {B : Nat} {U : World → Nat → Prop} {A C : World} (h : RK B U A C) (hA : ∀ k, U A k → k < A.heap.size) : ∀ k, U C k → k < C.heap.size := fun k hk => by
  have := h.1.size
  rcases h.2.2 k hk with q | q
  · have := hA k q; omega
  · exact q.2
theorem RK.mono {B B' : Nat} {U : World → Nat → Prop} {A C : World} (h : RK B U A C) (hb : B ≤ B') : RK B' U A C :=
  ⟨⟨h.1.size, fun k o hk => h.1.same k o (Nat.le_trans hb hk)⟩, fun k hk => h.2.1 k (Nat.le_trans hb hk), h.2.2⟩
theorem RK.below {B B' : Nat} {U : World → Nat → Prop} {A C : World} (hU : Stab B' U) (hA : B' ≤ A.heap.size) (h : Below A.heap.size A C) : RK B U A C :=
  ⟨⟨h.size, fun k o _ hk _ => by rw [h.block k (blk_lt hk)]; exact hk⟩, fun k _ hk _ => h.block k hk, fun k hk => .inl (hU A C none k hA ⟨h.os, h.tape, h.output, h.size, fun k hk _ => h.block k hk⟩ (fun r e => by cases e) hk)⟩
theorem RK.refl {B : Nat} {U : World → Nat → Prop} (A : World) : RK B U A A := ⟨KeepsFrom.refl _ _, fun _ _ _ _ => rfl, fun k h => .inl h⟩
theorem rk_no {B : Nat} {A C : World} (hs : A.heap.size ≤ C.heap.size) (h : ∀ k, B ≤ k → k < A.heap.size → C.heap[k]? = A.heap[k]?) : RK B noU A C :=
  ⟨⟨hs, fun k o hk ho _ => by rw [h k hk (blk_lt ho)]; exact ho⟩, fun k h1 h2 _ => h k h1 h2, fun k hk => hk.elim⟩
theorem rk_set {B X j : Nat} (A : World) (u : Value) (h : X < B) : RK B noU A (A.setCell ⟨X, j, none⟩ u) := rk_no (by simp) (fun k hk _ => Below.heap_setCell A ⟨X, j, none⟩ u k (fun e => by simp only at e; omega))
theorem rk_put {B l : Nat} {U : World → Nat → Prop} {B' : Nat} (hU : Stab B' U) (A : World) (o o' : Obj) (hA : B' ≤ A.heap.size) (h : l < B) (hl : A.heap[l]? = some o) (ho : o.isCells = false) : RK B U A (A.putObj l o') := by
  have hg := grownBy_putObj' A l o'
  refine ⟨⟨hg.size, fun k p hk h1 _ => by rw [World.putObj_heap_other (by omega)]; exact h1⟩, fun k hk _ _ => World.putObj_heap_other (by omega), fun k hk => .inl (hU A _ _ k hA hg (fun r e => by cases e; exact ⟨o, hl, ho⟩) hk)⟩
/-- How a round may be left. -/
def ownPostU {α : Type} (B : Nat) (U : World → Nat → Prop) (Kp : World → World → Prop) (I : List α → World → Prop) (Ix : Code → List α → World → Prop) (xs : List α) (W : World) : Exit → Act → World → Prop
  | .normal, _, W' => RK B U W W' ∧ Kp W W' ∧ I xs W'
  | .ret, _, W' => RK B U W W' ∧ Ix .ret xs W'
  | .exit id, _, W' => RK B U W W' ∧ Ix (.exit id) xs W'
  | .goto t, _, W' => RK B U W W' ∧ Ix (.goto t) xs W'
  | .panic _, _, _ => False
  | .outgrown, _, _ => False
/-- The iterator's word: S is all that comes, Sp what has come when a round said no more. -/
def SeqX {α : Type} (F : Fence) (P : Program) (g : Nat) (lb : Array Value) (encs : α → Array Value) (Kp : World → World → Prop) (S Sp : List α → Prop) (N : Nat) (w : World) : Prop :=
  ∀ (l n : Nat) (U : World → Nat → Prop) (J Jx : List α → World → Prop) (W : World), Below w.heap.size w W → l < W.heap.size → Stab W.heap.size U → (∀ k, U W k → k < W.heap.size) → OwnFrom W.heap.size J → OwnFrom W.heap.size Jx →
    (∀ (m : Nat) pre x W1, J pre W1 → pre.length < N → W.heap.size ≤ W1.heap.size → YieldAt F m P l (encs x) W1 fun e W' => RK W.heap.size U W1 W' ∧
      ((e = .returned (.bool true) ∧ J (pre ++ [x]) W' ∧ Kp W1 W') ∨ (e = .returned (.bool false) ∧ Jx (pre ++ [x]) W'))) →
    J [] W →
    CallsIn F n P g (#[.func (.yield l) #[] #[]] ++ lb) W fun e W' => (∃ v, e = .returned v) ∧ ((∃ xs, S xs ∧ J xs W') ∨ (∃ pre, Sp pre ∧ Jx pre W'))
theorem SeqX.inRound {α : Type} {F : Fence} {P : Program} {g : Nat} {lb : Array Value} {encs : α → Array Value} {Kp : World → World → Prop} {S Sp : List α → Prop} {N : Nat} {w : World} (l : Nat) (h : SeqX F P g lb encs Kp S Sp N w) : SeqX (F.inRound l) P g lb encs Kp S Sp N w := h
theorem SeqX.later {α : Type} {F : Fence} {P : Program} {g : Nat} {lb : Array Value} {encs : α → Array Value} {Kp : World → World → Prop} {S Sp : List α → Prop} {N : Nat} {w w' : World} (h : SeqX F P g lb encs Kp S Sp N w) (hb : Below w.heap.size w w') : SeqX F P g lb encs Kp S Sp N w' :=
  fun l n U J Jx W hW => h l n U J Jx W (hb.trans (hW.mono hb.size))
theorem room_any {F : Fence} (hd : F.depth = none) {m m' : Nat} {P : Program} {l : Nat} {f : FuncId} {tmps : Array Value} {assign body : Code} {w : World} {R : Ending → World → Prop} (h : RoundIn F m P l f tmps assign body w R) : RoundIn F m' P l f tmps assign body w R :=
  ⟨h.1, fun c cs _ => h.2 c cs (by unfold Fence.room; rw [hd]; intro d e; cases e)⟩
/-- The record of a loop. -/
def rcd (fn : FuncId) (tmps : Array Value) (ps : Array Tmp) (assign body : Code) (D : Nat) (st : LoopState) (pe : Option Code) : Loop := { state := st, pending := pe, fn := fn, tmps := tmps, params := ps, assign := assign, body := body, defers := D }
section
variable {α : Type} {F : Fence} {P : Program} {gf : Nat} {lb : Array Value} {encs : α → Array Value} {Kp : World → World → Prop} {S Sp : List α → Prop} {N : Nat} {w0 : World}
/-- The rounds, whatever else (X) must stand beside the loop's record. -/
theorem rounds_go (hd : F.depth = none) (hseq : SeqX F P gf lb encs Kp S Sp N w0) (hKt : ∀ {A B C : World}, Kp A B → Kp B C → Kp A C)
    {B l D nn : Nat} {U : World → Nat → Prop} (hU : Stab B U) {W1 : World} (hUW : ∀ k, U W1 k → k < W1.heap.size) {fn : FuncId} {tmps : Array Value} {ps : Array Tmp} {assign body : Code} (hfn : F.fn fn) (hBl : B ≤ l)
    (hKb : ∀ (W : World) (o o' : Obj), W.heap[l]? = some o → o.isCells = false → o.isWalk = false → Kp W (W.putObj l o'))
    (hl1 : W1.heap[l]? = some (.loop (rcd fn tmps ps assign body D .ready none))) (hb1 : Below w0.heap.size w0 W1) (hps : ∀ x, (encs x).size = ps.size) (hB1 : B ≤ W1.heap.size)
    (X : World → Prop) (hXk : ∀ A C, KeepsFrom B A C → X A → X C) (hXp : ∀ A o, X A → X (A.putObj l o)) (hXa : OwnFrom W1.heap.size (fun (_ : Unit) W => X W)) (hX0 : X W1)
    (I : List α → World → Prop) (Ix : Code → List α → World → Prop) (hI : OwnFrom B I) (hIx : ∀ c, OwnFrom B (Ix c)) (h0 : I [] W1) (Ax : α → Act → World → Prop) (hAx : ∀ x a', OwnFrom B (fun (_ : Unit) W => Ax x a' W))
    (hassign : ∀ (pre : List α) (x : α) (W : World) (K : Act → World → Prop), I pre W → B ≤ W.heap.size → (∀ a' W', RK B U W W' → Kp W W' → I pre W' → Ax x a' W' → K a' W') →
      assign.wpIn (F.inRound l) nn P (Exit.then K (fun _ _ _ => False)) { tmps := (ps.zip (encs x)).foldl (fun t (p, v) => t.setIfInBounds p v) tmps, defers := [] } W)
    (hbody : ∀ (pre : List α) (x : α) (a' : Act) (W : World), (∃ r, W.heap[l]? = some (.loop r)) → B ≤ W.heap.size → I pre W → Ax x a' W → pre.length < N → body.wpIn (F.inRound l) nn P (ownPostU B U Kp I Ix (pre ++ [x]) W) a' W) (n : Nat) :
    CallsIn F n P gf (#[.func (.yield l) #[] #[]] ++ lb) W1 fun e W' => (∃ v, e = .returned v) ∧
      ((∃ xs, S xs ∧ I xs W' ∧ W'.heap[l]? = some (.loop (rcd fn tmps ps assign body D .ready none)) ∧ X W') ∨ (∃ pre c, Sp pre ∧ Ix c pre W' ∧ W'.heap[l]? = some (.loop (rcd fn tmps ps assign body D .done (some c))) ∧ X W')) := by
  have hlt1 : l < W1.heap.size := (Array.getElem?_eq_some_iff.1 hl1).1
  have hnw : ∀ {A : World} {row : Option Nat}, (∀ r, row = some r → W1.heap.size ≤ r ∧ ∃ o : Obj, A.heap[r]? = some o ∧ o.isCells = false) → (∀ r, row = some r → B ≤ r ∧ ∃ o : Obj, A.heap[r]? = some o ∧ o.isCells = false) :=
    fun hr r e => by obtain ⟨h1, o, ho, hw⟩ := hr r e; exact ⟨by omega, o, ho, hw⟩
  have hU1 : Stab W1.heap.size U := fun A C row k h => hU A C row k (by omega)
  have h := hseq l n U (fun pre W => I pre W ∧ W.heap[l]? = some (.loop (rcd fn tmps ps assign body D .ready none)) ∧ X W)
    (fun pre W => ∃ c, Ix c pre W ∧ W.heap[l]? = some (.loop (rcd fn tmps ps assign body D .done (some c))) ∧ X W) W1 hb1 hlt1 hU1 hUW
    (fun s A C row hs hg hr => ⟨hI s A C row hs.1 hg (hnw hr), (hg.block l (blk_lt hs.2.1) (fun e => by have := (hr l e.symm).1; omega)).trans hs.2.1, hXa () A C row hs.2.2 hg hr⟩)
    (fun s A C row hs hg hr => by
      obtain ⟨c, h1, h2, h3⟩ := hs
      exact ⟨c, hIx c s A C row h1 hg (hnw hr), (hg.block l (blk_lt h2) (fun e => by have := (hr l e.symm).1; omega)).trans h2, hXa () A C row h3 hg hr⟩)
    ?_ ⟨h0, hl1, hX0⟩
  · refine h.mono ?_
    rintro e W2 ⟨hv, ⟨xs, hS, a1, a2, a3⟩ | ⟨pre, hSp, c, a1, a2, a3⟩⟩
    · exact ⟨hv, .inl ⟨xs, hS, a1, a2, a3⟩⟩
    · exact ⟨hv, .inr ⟨pre, c, hSp, a1, a2, a3⟩⟩
  · rintro m pre x W ⟨hi, hl, hx⟩ hlen hzW
    have hy := run_yield (P := P) (args := encs x) hl (hps x)
    refine ⟨fn, _, assign, body, hy, room_any (m := nn) hd (roundIn_of_wpIn hfn (hassign pre x W _ hi (by omega) ?_))⟩
    intro a' V hk1 hp1 hi1 hax
    have hlV := hk1.1.same _ _ hBl hl rfl
    have hxV := hXk _ _ hk1.1 hx
    have hzV := hk1.1.size
    have hltV : l < V.heap.size := (Array.getElem?_eq_some_iff.1 hlV).1
    refine ⟨_, run_beginRound hlV rfl, ?_⟩
    obtain ⟨UU, hUU⟩ : ∃ UU, UU = V.putObj l (.loop { rcd fn tmps ps assign body D .ready none with state := .busy }) := ⟨_, rfl⟩
    rw [← hUU]
    have hlU : UU.heap[l]? = some (.loop { rcd fn tmps ps assign body D .ready none with state := .busy }) := by rw [hUU]; exact World.putObj_heap_same hltV
    have hiU : I pre UU := by rw [hUU]; exact hI.putObj _ hi1 hBl hlV rfl
    have haU : Ax x a' UU := by rw [hUU]; exact (hAx x a').putObj (s := ()) _ hax hBl hlV rfl
    have hxU : X UU := by rw [hUU]; exact hXp _ _ hxV
    have hpU : Kp V UU := by rw [hUU]; exact hKb _ _ _ hlV rfl rfl
    have hkU : RK W1.heap.size U V UU := by rw [hUU]; exact rk_put hU V _ _ (by omega) hlt1 hlV rfl
    refine wpIn_mono (hbody pre x a' UU ⟨_, hlU⟩ (by have := hkU.1.size; omega) hiU haU hlen) ?_
    have fin : ∀ (jump : Option Code) (T : World), RK B U UU T →
        (Instr.endRound l jump).run P T = .ok (.bool jump.isNone) (T.putObj l (.loop (rcd fn tmps ps assign body D (if jump.isNone then .ready else .done) jump))) ∧
        T.heap[l]? = some (.loop { rcd fn tmps ps assign body D .ready none with state := .busy }) ∧
        (T.putObj l (.loop (rcd fn tmps ps assign body D (if jump.isNone then .ready else .done) jump))).heap[l]? = some (.loop (rcd fn tmps ps assign body D (if jump.isNone then .ready else .done) jump)) ∧
        X (T.putObj l (.loop (rcd fn tmps ps assign body D (if jump.isNone then .ready else .done) jump))) ∧
        RK W1.heap.size U W (T.putObj l (.loop (rcd fn tmps ps assign body D (if jump.isNone then .ready else .done) jump))) := fun jump T hk => by
      have h3 := hk.1.same _ _ hBl hlU rfl
      exact ⟨run_endRound (P := P) jump h3, h3, World.putObj_heap_same (Array.getElem?_eq_some_iff.1 h3).1, hXp _ _ (hXk _ _ hk.1 hxU),
        (((hk1.mono hB1).trans hkU).trans (hk.mono hB1)).trans (rk_put hU T _ _ (by have := hk.1.size; have := hkU.1.size; omega) hlt1 h3 rfl)⟩
    rintro e a3 T hp
    cases e with
    | normal =>
      obtain ⟨hk, hkp, hi3⟩ := hp
      obtain ⟨f1, f2, f3, f4, f5⟩ := fin none T hk
      exact ⟨_, _, f1, f5, .inl ⟨rfl, ⟨hI.putObj _ hi3 hBl f2 rfl, f3, f4⟩, hKt hp1 (hKt (hKt hpU hkp) (hKb _ _ _ f2 rfl rfl))⟩⟩
    | ret =>
      obtain ⟨hk, hi3⟩ := hp
      obtain ⟨f1, f2, f3, f4, f5⟩ := fin (some .ret) T hk
      exact ⟨_, _, f1, f5, .inr ⟨rfl, .ret, (hIx _).putObj _ hi3 hBl f2 rfl, f3, f4⟩⟩
    | exit id =>
      obtain ⟨hk, hi3⟩ := hp
      obtain ⟨f1, f2, f3, f4, f5⟩ := fin (some (.exit id)) T hk
      exact ⟨_, _, f1, f5, .inr ⟨rfl, .exit id, (hIx _).putObj _ hi3 hBl f2 rfl, f3, f4⟩⟩
    | goto t =>
      obtain ⟨hk, hi3⟩ := hp
      obtain ⟨f1, f2, f3, f4, f5⟩ := fin (some (.goto t)) T hk
      exact ⟨_, _, f1, f5, .inr ⟨rfl, .goto t, (hIx _).putObj _ hi3 hBl f2 rfl, f3, f4⟩⟩
    | panic ch => exact hp.elim
    | outgrown => exact hp.elim
theorem range_topX {n nn : Nat} {g : Operand} {ps : Array Tmp} {assign body : Code} {Q : Exit → Act → World → Prop} {a : Act} {w : World} (U : World → Nat → Prop) (hU : Stab w.heap.size U) (hUw : ∀ k, U w k → k < w.heap.size) (hro : F.round = none) (hd : F.depth = none)
    (hg : a.eval g = .func (.func gf) #[] lb) (hFg : F.fn gf) (eg : ∀ args w, (callFunc gf args).run P w = .ok (.enter gf args) w) (hseq : SeqX F P gf lb encs Kp S Sp N w0)
    (hKt : ∀ {A B C : World}, Kp A B → Kp B C → Kp A C) (hKb : ∀ (W : World) (l : Nat) (o o' : Obj), w.heap.size ≤ l → W.heap[l]? = some o → o.isCells = false → o.isWalk = false → Kp W (W.putObj l o')) (hb0 : Below w0.heap.size w0 w) (hps : ∀ x, (encs x).size = ps.size)
    (I : List α → World → Prop) (Ix : Code → List α → World → Prop) (hI : OwnFrom w.heap.size I) (hIx : ∀ c, OwnFrom w.heap.size (Ix c)) (h0 : I [] w) (Ax : α → Act → World → Prop) (hAx : ∀ x a', OwnFrom w.heap.size (fun (_ : Unit) W => Ax x a' W))
    (hassign : ∀ (l : Nat) (pre : List α) (x : α) (W : World) (K : Act → World → Prop), I pre W → w.heap.size ≤ W.heap.size → (∀ a' W', RK w.heap.size U W W' → Kp W W' → I pre W' → Ax x a' W' → K a' W') →
      assign.wpIn (F.inRound l) nn P (Exit.then K (fun _ _ _ => False)) { tmps := (ps.zip (encs x)).foldl (fun t (p, v) => t.setIfInBounds p v) a.tmps, defers := [] } W)
    (hbody : ∀ (l : Nat) (pre : List α) (x : α) (a' : Act) (W : World), w.heap.size ≤ l → (∃ r, W.heap[l]? = some (.loop r)) → w.heap.size ≤ W.heap.size → I pre W → Ax x a' W → pre.length < N → body.wpIn (F.inRound l) nn P (ownPostU w.heap.size U Kp I Ix (pre ++ [x]) W) a' W)
    (hdone : ∀ (D : Nat) (xs : List α) (W : World), w.heap.size ≤ D → S xs → I xs W → W.heap[D]? = some (.deferred (some [])) → Q .normal { a with defers := { target := .collected D, args := #[] } :: a.defers } W)
    (hstop : ∀ (D : Nat) (c : Code) (pre : List α) (W : World), w.heap.size ≤ D → Sp pre → Ix c pre W → W.heap[D]? = some (.deferred (some [])) → c.wpIn F n P Q { a with defers := { target := .collected D, args := #[] } :: a.defers } W) :
    (Code.rangeFunc g ps assign body).wpIn F n P Q a w := by
  refine wpIn_rangeFunc fun fn hfn => ?_
  rw [hro]
  obtain ⟨W1, hW1⟩ : ∃ W1, W1 = (w.alloc (.deferred (some []))).alloc (.loop (rcd fn a.tmps ps assign body w.heap.size .ready none)) := ⟨_, rfl⟩
  have hz : W1.heap.size = w.heap.size + 1 + 1 := by rw [hW1]; simp
  have hbw : Below w.heap.size w W1 := by rw [hW1]; exact ((Below.refl _ w).alloc (Nat.le_refl _) _).alloc (by simp) _
  have hUW : ∀ k, U W1 k → k < W1.heap.size := fun k h => by have := hUw k (hU w W1 none k (Nat.le_refl _) ⟨hbw.os, hbw.tape, hbw.output, hbw.size, fun k hk _ => hbw.block k hk⟩ (fun r e => by cases e) h); omega
  have hl : W1.heap[w.heap.size + 1]? = some (.loop (rcd fn a.tmps ps assign body w.heap.size .ready none)) := by
    have := World.alloc_heap_new (w.alloc (.deferred (some []))) (.loop (rcd fn a.tmps ps assign body w.heap.size .ready none))
    rw [World.size_alloc] at this
    rw [hW1]; exact this
  have hD : W1.heap[w.heap.size]? = some (.deferred (some [])) := by
    rw [hW1]; exact (Below.heap_alloc _ _ _ (by simp)).trans (World.alloc_heap_new w _)
  have hi : I [] W1 := by rw [hW1]; exact hI.alloc _ (hI.alloc _ h0)
  have hb1 : Below w0.heap.size w0 W1 := by rw [hW1]; exact hb0.trans ((((Below.refl _ w).alloc (Nat.le_refl _) _).alloc (by simp) _).mono hb0.size)
  refine ⟨w.heap.size + 1, [{ target := .collected w.heap.size, args := #[] }], W1, { target := .fn (.func gf) lb, args := #[.func (.yield (w.heap.size + 1)) #[] #[]] }, W1, gf,
    #[.func (.yield (w.heap.size + 1)) #[] #[]] ++ lb, W1, ?_, ?_, ?_, ?_, fun h => (by rw [hd] at h; cases h), ?_⟩
  · rw [hW1]; exact run_enterLoop_outer _ _ _ _ _
  · simp only [resolve, hg]
    simp [go_sem]
  · intro f' hf'; simp [Target.leads] at hf'; subst hf'; exact hFg
  · simp [invoke, go_sem, eg]
  · refine (rounds_go (B := w.heap.size) (l := w.heap.size + 1) (D := w.heap.size) (nn := nn) hd hseq (fun h k => hKt h k) hU hUW hfn (by omega) (fun W o o' => hKb W _ o o' (by omega)) hl hb1 hps (by omega)
      (fun W => W.heap[w.heap.size]? = some (.deferred (some []))) (fun A C hk h => hk.same _ _ (Nat.le_refl _) h rfl) (fun A o h => (World.putObj_heap_other (by omega)).trans h)
      (fun _ A C row h hg hr => (hg.block _ (blk_lt h) (fun e => by have := (hr _ e.symm).1; omega)).trans h) hD I Ix hI hIx hi Ax hAx (hassign _) (fun pre x a' W h h2 => hbody _ pre x a' W (by omega) h h2) _).mono ?_
    rintro e W2 ⟨⟨v, rfl⟩, ⟨xs, hS, a1, a2, a3⟩ | ⟨pre, c, hSp, a1, a2, a3⟩⟩
    · exact ⟨none, _, run_endLoop (P := P) a2 (by simp [rcd]), hdone _ xs _ (Nat.le_refl _) hS (hI.putObj _ a1 (by omega) a2 rfl) ((World.putObj_heap_other (by omega)).trans a3)⟩
    · exact ⟨some c, _, run_endLoop (P := P) a2 (by simp [rcd]), hstop _ c pre _ (Nat.le_refl _) hSp ((hIx c).putObj _ a1 (by omega) a2 rfl) ((World.putObj_heap_other (by omega)).trans a3)⟩
theorem range_inX {n nn l₀ : Nat} {r₀ : Loop} {g : Operand} {ps : Array Tmp} {assign body : Code} {Q : Exit → Act → World → Prop} {a : Act} {w : World} (U : World → Nat → Prop) (hU : Stab w.heap.size U) (hUw : ∀ k, U w k → k < w.heap.size) (hro : F.round = some l₀) (hd : F.depth = none) (hl₀ : w.heap[l₀]? = some (.loop r₀))
    (hg : a.eval g = .func (.func gf) #[] lb) (hFg : F.fn gf) (eg : ∀ args w, (callFunc gf args).run P w = .ok (.enter gf args) w) (hseq : SeqX F P gf lb encs Kp S Sp N w0)
    (hKt : ∀ {A B C : World}, Kp A B → Kp B C → Kp A C) (hKb : ∀ (W : World) (l : Nat) (o o' : Obj), w.heap.size ≤ l → W.heap[l]? = some o → o.isCells = false → o.isWalk = false → Kp W (W.putObj l o')) (hb0 : Below w0.heap.size w0 w) (hps : ∀ x, (encs x).size = ps.size)
    (I : List α → World → Prop) (Ix : Code → List α → World → Prop) (hI : OwnFrom w.heap.size I) (hIx : ∀ c, OwnFrom w.heap.size (Ix c)) (h0 : I [] w) (Ax : α → Act → World → Prop) (hAx : ∀ x a', OwnFrom w.heap.size (fun (_ : Unit) W => Ax x a' W))
    (hassign : ∀ (l : Nat) (pre : List α) (x : α) (W : World) (K : Act → World → Prop), I pre W → w.heap.size ≤ W.heap.size → (∀ a' W', RK w.heap.size U W W' → Kp W W' → I pre W' → Ax x a' W' → K a' W') →
      assign.wpIn (F.inRound l) nn P (Exit.then K (fun _ _ _ => False)) { tmps := (ps.zip (encs x)).foldl (fun t (p, v) => t.setIfInBounds p v) a.tmps, defers := [] } W)
    (hbody : ∀ (l : Nat) (pre : List α) (x : α) (a' : Act) (W : World), w.heap.size ≤ l → (∃ r, W.heap[l]? = some (.loop r)) → w.heap.size ≤ W.heap.size → I pre W → Ax x a' W → pre.length < N → body.wpIn (F.inRound l) nn P (ownPostU w.heap.size U Kp I Ix (pre ++ [x]) W) a' W)
    (hdone : ∀ (xs : List α) (W : World), S xs → I xs W → Q .normal a W)
    (hstop : ∀ (c : Code) (pre : List α) (W : World), Sp pre → Ix c pre W → c.wpIn F n P Q a W) :
    (Code.rangeFunc g ps assign body).wpIn F n P Q a w := by
  refine wpIn_rangeFunc fun fn hfn => ?_
  rw [hro]
  obtain ⟨W1, hW1⟩ : ∃ W1, W1 = w.alloc (.loop (rcd fn a.tmps ps assign body r₀.defers .ready none)) := ⟨_, rfl⟩
  have hz : W1.heap.size = w.heap.size + 1 := by rw [hW1]; simp
  have hbw : Below w.heap.size w W1 := by rw [hW1]; exact (Below.refl _ w).alloc (Nat.le_refl _) _
  have hUW : ∀ k, U W1 k → k < W1.heap.size := fun k h => by have := hUw k (hU w W1 none k (Nat.le_refl _) ⟨hbw.os, hbw.tape, hbw.output, hbw.size, fun k hk _ => hbw.block k hk⟩ (fun r e => by cases e) h); omega
  have hl : W1.heap[w.heap.size]? = some (.loop (rcd fn a.tmps ps assign body r₀.defers .ready none)) := by rw [hW1]; exact World.alloc_heap_new w _
  have hi : I [] W1 := by rw [hW1]; exact hI.alloc _ h0
  have hb1 : Below w0.heap.size w0 W1 := by rw [hW1]; exact hb0.trans (((Below.refl _ w).alloc (Nat.le_refl _) _).mono hb0.size)
  refine ⟨w.heap.size, [], W1, { target := .fn (.func gf) lb, args := #[.func (.yield w.heap.size) #[] #[]] }, W1, gf,
    #[.func (.yield w.heap.size) #[] #[]] ++ lb, W1, ?_, ?_, ?_, ?_, fun h => (by rw [hd] at h; cases h), ?_⟩
  · rw [hW1]; exact run_enterLoop_inner hl₀ _ _ _ _ _
  · simp only [resolve, hg]
    simp [go_sem]
  · intro f' hf'; simp [Target.leads] at hf'; subst hf'; exact hFg
  · simp [invoke, go_sem, eg]
  · refine (rounds_go (B := w.heap.size) (l := w.heap.size) (D := r₀.defers) (nn := nn) hd hseq (fun h k => hKt h k) hU hUW hfn (Nat.le_refl _) (fun W o o' => hKb W _ o o' (Nat.le_refl _)) hl hb1 hps (by omega)
      (fun _ => True) (fun A C hk h => trivial) (fun A o h => trivial) (fun _ A C row h hg hr => trivial) trivial I Ix hI hIx hi Ax hAx (hassign _) (fun pre x a' W h h2 => hbody _ pre x a' W (Nat.le_refl _) h h2) _).mono ?_
    rintro e W2 ⟨⟨v, rfl⟩, ⟨xs, hS, a1, a2, a3⟩ | ⟨pre, c, hSp, a1, a2, a3⟩⟩
    · exact ⟨none, _, run_endLoop (P := P) a2 (by simp [rcd]), hdone xs _ hS (hI.putObj _ a1 (Nat.le_refl _) a2 rfl)⟩
    · exact ⟨some c, _, run_endLoop (P := P) a2 (by simp [rcd]), hstop c pre _ hSp ((hIx c).putObj _ a1 (Nat.le_refl _) a2 rfl)⟩
end
end Go.Proofs.Ytfbkjghipahipaa
