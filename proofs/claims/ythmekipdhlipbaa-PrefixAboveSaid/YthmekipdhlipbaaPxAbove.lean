/-
  The iterator that Above hands back: one contract, for every loop body that keeps what lay below it.
-/
import Derived.RangeFuncNested
import Derived.RangeFuncBound
import Derived.RangeFuncCalls
import Derived.RangeFuncLeaves
import Derived.Shelf.Abstract
import Derived.Shelf.RegionOpen
import Derived.WalkKit
import Derived.OwnWalkIn
import Derived.TacticsInMore
import Derived.LoopNIn
import Derived.LoopIn
import Derived.Test.YthmekipdhlipbaaPxA
namespace Go.Proofs.Ythmekipdhlipbaa
open Go.RowKit Go.Shelf
set_option linter.unusedVariables false
set_option linter.unusedSimpArgs false
attribute [local go_sem] Oper.semAt_some

/-- What a round may know of what it is handed: a word, and a length. -/
abbrev Pxx := { x : Nat × Nat // x.1 < 4294967296 ∧ x.2 ≤ 32 }
/-- The prefix of the first j bits. -/
def cutP (a j : Nat) : Pxx := ⟨(ct a j % 4294967296, min j 32), Nat.mod_lt _ (by decide), Nat.min_le_right _ _⟩
theorem cutP_fst (a j : Nat) (ha : a < 4294967296) : (cutP a j).1.1 = ct a j := Nat.mod_eq_of_lt (ct_lt a j ha)
theorem cutP_snd (a j : Nat) (hj : j ≤ 32) : (cutP a j).1.2 = j := Nat.min_eq_left hj
/-- The prefixes of the first j - 1 bits of a word, down to none. -/
def desc (a : Nat) : Nat → List Pxx
  | 0 => []
  | j + 1 => cutP a j :: desc a j
theorem desc_length (a : Nat) : ∀ j, (desc a j).length = j
  | 0 => rfl
  | j + 1 => by simp [desc, desc_length a j]
theorem grown_of_below {w w' : World} (h : Below w.heap.size w w') : w.grownBy w' none := ⟨h.os, h.tape, h.output, h.size, fun k hk _ => h.block k hk⟩
def encP (x : Pxx) : Array Value := #[.agg #[.int .u32 (x.1.1 : Int), .int .i64 (x.1.2 : Int)]]
theorem encP_cut (a j : Nat) (ha : a < 4294967296) (hj : j ≤ 32) : encP (cutP a j) = #[.agg #[.int .u32 (ct a j : Int), .int .i64 (j : Int)]] := by unfold encP; rw [cutP_fst a j ha, cutP_snd a j hj]

set_option maxRecDepth 100000 in
set_option maxHeartbeats 2000000 in
theorem above1_in (m : Nat) (hm : 1 ≤ m) (l Bn n₀ a n : Nat) (ha : a < 4294967296) (hn : n ≤ 32) (ka : chk a (n : Int) = 0) (hBn : Bn < n₀) (J Jx : List Pxx → World → Prop) (W : World) (hn₀ : n₀ ≤ W.heap.size)
    (hJ : AbidesFrom W.heap.size J)
    (hY : ∀ pre x W1, J pre W1 → pre.length < (desc a (n + 1)).length → YieldAt Fence.wide (m - 1) Try.prog l (encP x) W1 fun e W' =>
      (e = .returned (.bool true) ∧ J (pre ++ [x]) W' ∧ Below n₀ W1 W') ∨ (e = .returned (.bool false) ∧ Jx (pre ++ [x]) W'))
    (c0 : W.cell? ⟨Bn, 0, none⟩ = some (.int .u32 (a : Int))) (c1 : W.cell? ⟨Bn, 1, none⟩ = some (.int .i64 (n : Int))) (h0 : J [] W) :
    CallsIn Fence.wide m Try.prog 37 #[.func (.yield l) #[] #[], .pointer (some ⟨Bn, 0, none⟩)] W fun e W' => (∃ v, e = .returned v) ∧
      ((∃ ys, ys = desc a (n + 1) ∧ J ys W') ∨ (∃ pre, pre <+: desc a (n + 1) ∧ Jx pre W')) := by
  refine callsIn_of_wp Try.func37 rfl trivial ?_ rfl
  simp only [Try.ntmps37, List.size_toArray, List.length_cons, List.length_nil, Nat.reduceAdd, Nat.reduceSub, Array.replicate_succ, Array.replicate_zero, List.push_toArray, List.append_toArray, List.nil_append, List.cons_append]
  gi_wp2_with (refine ⟨trivial, ?_⟩; gi_at_call 38; refine (callsIn_wide.2 (check_any a n _ ha)).mono ?_; rintro e w1 ⟨rfl, hb1⟩; have d0 := (hb1.cell (p := ⟨Bn, 0, none⟩) (by show Bn < _; omega)).trans c0; have d1 := (hb1.cell (p := ⟨Bn, 1, none⟩) (by show Bn < _; omega)).trans c1)
  have hJ1 : J [] w1 := hJ _ _ _ none h0 (grown_of_below hb1) (fun r e => by cases e)
  have hz1 : n₀ ≤ w1.heap.size := Nat.le_trans hn₀ hb1.size
  clear c0 c1 h0 hb1
  gi_loopw [3] (fun i wr => ∃ (j : Nat) (pre : List Pxx), j ≤ n + 1 ∧ i = .int .i64 ((j : Int) - 1) ∧ Hid (desc a (n + 1) = pre ++ desc a j) ∧ wr.cell? ⟨Bn, 0, none⟩ = some (.int .u32 (a : Int)) ∧ n₀ ≤ wr.heap.size ∧ J pre wr) (fun i _ => (intOf i + 1).toNat)
  case atStart => exact ⟨n + 1, [], Nat.le_refl _, by go_num, rfl, d0, hz1, hJ1⟩
  case round =>
    clear d0 d1 hz1 hJ1
    obtain ⟨j, pre, hj, rfl, hd, d0, hz, hJs⟩ := hrel
    cases j with
    | zero =>
      gi_wp2
      go_end0
      exact ⟨⟨_, rfl⟩, .inl ⟨pre, by rw [hd.out]; simp [desc], hJs⟩⟩
    | succ j =>
      have hj0 : (0 : Int) ≤ (j : Int) := by omega
      have hj2 : j ≤ 32 := by omega
      have hlen : pre.length < (desc a (n + 1)).length := by rw [hd.out]; simp [desc]
      gi_wp2_with (refine ⟨trivial, ?_⟩; gi_at_call 39; refine (callsIn_wide.2 (first_any a j _ ha hj2)).mono ?_; rintro e w2 ⟨rfl, hb2⟩; have e0 := (hb2.cell (p := ⟨Bn, 0, none⟩) (by show Bn < _; omega)).trans d0; have hJ2 : J pre w2 := (hJ _ _ _ none hJs (grown_of_below hb2) (fun r e => by cases e)); obtain ⟨fn, tmps, assign, body, hy, hR⟩ := hY pre (cutP a j) w2 hJ2 hlen; rw [encP_cut a j ha hj2] at hy)
      refine hR.mono ?_
      rintro e W3 (⟨rfl, hJ3, hk3⟩ | ⟨rfl, hJx3⟩)
      · have e3 := (hk3.cell (p := ⟨Bn, 0, none⟩) hBn).trans e0
        have hz3 : n₀ ≤ W3.heap.size := Nat.le_trans hz (Nat.le_trans hb2.size hk3.size)
        clear hy hR hb2 hJ2 hJs
        gi_wp2
        go_roundw
        case rel => exact ⟨j, pre ++ [cutP a j], by omega, by go_num, by show _ = _; rw [hd.out]; simp [desc], e3, hz3, hJ3⟩
        case measure => simp [intOf]
      · clear hy hR
        gi_wp2
        refine bodyPost_ret (results_none rfl _ _ _) rfl ?_
        exact ⟨⟨_, rfl⟩, .inr ⟨pre ++ [cutP a j], ⟨desc a j, by rw [hd.out]; simp [desc]⟩, hJx3⟩⟩
theorem above_stops (m : Nat) (hm : 1 ≤ m) (Bn n₀ a n : Nat) (ha : a < 4294967296) (hn : n ≤ 32) (ka : chk a (n : Int) = 0) (w : World) (hBn : Bn < n₀) (hn₀ : n₀ ≤ w.heap.size)
    (c0 : w.cell? ⟨Bn, 0, none⟩ = some (.int .u32 (a : Int))) (c1 : w.cell? ⟨Bn, 1, none⟩ = some (.int .i64 (n : Int))) :
    SeqStopsK Fence.wide m Try.prog 37 #[.pointer (some ⟨Bn, 0, none⟩)] encP (Below n₀) (fun ys => ys = desc a (n + 1)) (fun pre => pre <+: desc a (n + 1)) (desc a (n + 1)).length w := fun l J Jx W hW hJ hJx hY h0 =>
  above1_in m hm l Bn n₀ a n ha hn ka hBn J Jx W (Nat.le_trans hn₀ hW.size) hJ hY ((hW.cell (p := ⟨Bn, 0, none⟩) (by show Bn < _; omega)).trans c0) ((hW.cell (p := ⟨Bn, 1, none⟩) (by show Bn < _; omega)).trans c1) h0
theorem above_any (a : Nat) (n : Int) (w : World) :
    Calls Try.prog 10 #[.agg #[.int .u32 a, .int .i64 n]] w fun e w' => e = .returned (.func (.func 37) #[] #[.pointer (some ⟨w.heap.size, 0, none⟩)]) ∧ w' = w.alloc (.cells #[.int .u32 a, .int .i64 n] 24) := by
  go_enter Try.func10, Try.ntmps10
  go_wp2
  go_ret
  exact ⟨rfl, rfl⟩
theorem eq_nilFunc (lb : Array Value) (w : World) : Sem.run Try.prog (binOp .eql 28 (.func (.func 37) #[] lb) .nilFunc) w = .ok (.bool false) w := by
  have h : ∀ d, Sem.run Try.prog (Op.equalIn (d + 1) 28 (.func (.func 37) #[] lb) .nilFunc) w = .ok false w := fun d => by
    rw [Op.equalIn]
    simp [go_sem, run_underlying Try.underlying28]
  have h2 : Sem.run Try.prog (Op.equal 28 (.func (.func 37) #[] lb) .nilFunc) w = .ok false w := h 9999
  simp [binOp, go_sem, h2]
/-- A loop over that iterator whose variable is boxed (slot 11, handed in slot 67): the frame of a round, written over the frame where the loop begins. -/
theorem range_px {g : Operand} {assign body : Code} {Q : Exit → Act → World → Prop} {a : Act} {w : World} {lb : Array Value} (hg : a.eval g = .func (.func 37) #[] lb)
    {S Sp : List Pxx → Prop} {N n₀ : Nat} (hn₀ : n₀ ≤ w.heap.size) (hseq : SeqStopsK Fence.wide 8 Try.prog 37 lb encP (Below n₀) S Sp N w)
    (I : List Pxx → World → Prop) (Ix : Code → List Pxx → World → Prop) (hI : OwnFrom w.heap.size I) (hIx : ∀ c, OwnFrom w.heap.size (Ix c)) (h0 : I [] w)
    (hassign : ∀ (l : Nat) (pre : List Pxx) (x : Pxx) (W : World) (K : Act → World → Prop), I pre W → w.heap.size ≤ W.heap.size →
      (K { tmps := (a.tmps.setIfInBounds 67 (.agg #[.int .u32 (x.1.1 : Int), .int .i64 (x.1.2 : Int)])).setIfInBounds 11 (.pointer (some ⟨W.heap.size, 0, none⟩)), defers := [] } (W.alloc (.cells #[.int .u32 (x.1.1 : Int), .int .i64 (x.1.2 : Int)] 24))) →
      assign.wpIn (Fence.wide.inRound l) 7 Try.prog (Exit.then K (fun _ _ _ => False)) { tmps := a.tmps.setIfInBounds 67 (.agg #[.int .u32 (x.1.1 : Int), .int .i64 (x.1.2 : Int)]), defers := [] } W)
    (hsz : ∀ pre W, I pre W → w.heap.size ≤ W.heap.size)
    (hbody : ∀ (l : Nat) (pre : List Pxx) (x : Pxx) (Bx : Nat) (W : World), w.heap.size ≤ Bx → W.cell? ⟨Bx, 0, none⟩ = some (.int .u32 (x.1.1 : Int)) → W.cell? ⟨Bx, 1, none⟩ = some (.int .i64 (x.1.2 : Int)) → I pre W → pre.length < N →
      body.wpIn (Fence.wide.inRound l) 7 Try.prog (ownPostG w.heap.size (Below n₀) I Ix (pre ++ [x]) W) { tmps := (a.tmps.setIfInBounds 67 (.agg #[.int .u32 (x.1.1 : Int), .int .i64 (x.1.2 : Int)])).setIfInBounds 11 (.pointer (some ⟨Bx, 0, none⟩)), defers := [] } W)
    (hdone : ∀ (D : Nat) (xs : List Pxx) (W : World), w.heap.size ≤ D → S xs → I xs W → W.heap[D]? = some (.deferred (some [])) → Q .normal { a with defers := { target := .collected D, args := #[] } :: a.defers } W)
    (hstop : ∀ (D : Nat) (c : Code) (pre : List Pxx) (W : World), w.heap.size ≤ D → Sp pre → Ix c pre W → W.heap[D]? = some (.deferred (some [])) → c.wpIn Fence.wide 9 Try.prog Q { a with defers := { target := .collected D, args := #[] } :: a.defers } W) :
    (Code.rangeFunc g #[67] assign body).wpIn Fence.wide 9 Try.prog Q a w := by
  refine wpIn_rangeFunc_ownH (F := Fence.wide) (n := 9) rfl (by decide) (gf := 37) (lb := lb) hg trivial (enters_of Try.func37 (by kernel_rfl) rfl) hseq belowK_t (belowK_b hn₀) (Below.refl _ _) (fun _ => rfl) I Ix hI hIx h0
    (fun x a' W => ∃ Bx, w.heap.size ≤ Bx ∧ W.cell? ⟨Bx, 0, none⟩ = some (.int .u32 (x.1.1 : Int)) ∧ W.cell? ⟨Bx, 1, none⟩ = some (.int .i64 (x.1.2 : Int)) ∧ a' = { tmps := (a.tmps.setIfInBounds 67 (.agg #[.int .u32 (x.1.1 : Int), .int .i64 (x.1.2 : Int)])).setIfInBounds 11 (.pointer (some ⟨Bx, 0, none⟩)), defers := [] })
    ?_ ?_ ?_ hdone hstop
  · rintro x a' s A B row ⟨Bx, h1, h2, h3, h4⟩ hg' hr
    have hr' : ∀ r, row = some r → ∃ o : Obj, A.heap[r]? = some o ∧ o.isCells = false := fun r e => (hr r e).2
    exact ⟨Bx, h1, cell_kept h2 hg' hr', cell_kept h3 hg' hr', h4⟩
  · intro l pre x W K hi hK
    have hz := hsz pre W hi
    have hfold : Array.foldl (fun (t : Array Value) (x : Nat × Value) => match x with | (p, v) => t.setIfInBounds p v) a.tmps ((#[67] : Array Nat).zip (encP x)) = a.tmps.setIfInBounds 67 (.agg #[.int .u32 (x.1.1 : Int), .int .i64 (x.1.2 : Int)]) := by simp [encP]
    have hgo := hassign l pre x W K hi hz ?_
    · rw [← hfold] at hgo; exact hgo
    refine hK _ _ ((KeepsOthers.alloc _ _).from _) ((Below.refl _ W).alloc (by omega) _) (hI.alloc _ hi) ⟨W.heap.size, hz, ?_, ?_, rfl⟩
    · simp [go_sem]
    · simp [go_sem]
  · rintro l pre x a' W hl _ hi ⟨Bx, h1, h2, h3, rfl⟩ hN
    exact hbody l pre x Bx W h1 h2 h3 hi hN
end Go.Proofs.Ythmekipdhlipbaa
