/-
  The iterator that All hands back: one contract, for every loop body that keeps what lay below it; a loop over it, at the top and within a round of another.
-/
import Derived.RangeFuncNested
import Derived.RangeFuncBound
import Derived.RangeFuncCalls
import Derived.RangeFuncLeaves
import Derived.Shelf.Abstract
import Derived.Shelf.RegionOpen
import Derived.WalkKit
import Derived.OwnWalkIn
import Derived.TacticsInMore
import Derived.LoopNIn
import Derived.LoopIn
import Derived.Test.YtphfjhkbbodfaaaMkB
namespace Go.Proofs.Ytphfjhkbbodfaaa
open Go.RowKit Go.Shelf
set_option linter.unusedVariables false
set_option linter.unusedSimpArgs false
attribute [local go_sem] Oper.semAt_some

/-- What a round may know of what it is handed: a byte. -/
abbrev Byx := { p : Nat // p < 256 }
def byx (n : Nat) : Byx := ⟨n % 256, Nat.mod_lt _ (by decide)⟩
/-- The bytes below n that a mask holds. -/
def allX (v c : Nat) : Nat → List Byx
  | 0 => []
  | n + 1 => if hasM v c n = true then allX v c n ++ [byx n] else allX v c n
theorem allX_nums (v c : Nat) : ∀ n, n ≤ 256 → (allX v c n).map (fun x => x.1) = allN v c n
  | 0, _ => rfl
  | n + 1, h => by
    have ih := allX_nums v c n (by omega)
    rw [allN_succ]
    unfold allX
    cases hh : hasM v c n
    · simpa using ih
    · simp only [if_true, List.map_append, ih, List.map_cons, List.map_nil, byx]
      rw [Nat.mod_eq_of_lt (by omega)]
theorem allX_length (v c n : Nat) (h : n ≤ 256) : (allX v c n).length = (allN v c n).length := by rw [← allX_nums v c n h, List.length_map]
theorem allX_pre (v c : Nat) : ∀ m n, n ≤ m → allX v c n <+: allX v c m
  | 0, n, h => by rw [show n = 0 by omega]; exact List.prefix_refl _
  | m + 1, n, h => by
    by_cases e : n = m + 1
    · subst e; exact List.prefix_refl _
    · refine List.IsPrefix.trans (allX_pre v c m n (by omega)) ?_
      show allX v c m <+: (if hasM v c m = true then allX v c m ++ [byx m] else allX v c m)
      split
      · exact List.prefix_append _ _
      · exact List.prefix_refl _
theorem allX_hit {v c n : Nat} (h : hasM v c n = true) : allX v c (n + 1) = allX v c n ++ [byx n] := by
  show (if hasM v c n = true then _ else _) = _
  rw [if_pos h]
theorem allX_miss {v c n : Nat} (h : hasM v c n = false) : allX v c (n + 1) = allX v c n := by
  show (if hasM v c n = true then _ else _) = _
  rw [h]; rfl
theorem allX_lt {v c n : Nat} (hn : n < 256) (h : hasM v c n = true) : (allX v c n).length < (allX v c 256).length := by
  have := (allX_pre v c 256 (n + 1) (by omega)).length_le
  rw [allX_hit h, List.length_append] at this
  simp at this
  omega
theorem grown_of_below {w w' : World} (h : Below w.heap.size w w') : w.grownBy w' none := ⟨h.os, h.tape, h.output, h.size, fun k hk _ => h.block k hk⟩
def encB (x : Byx) : Array Value := #[.int .u8 (x.1 : Int)]
theorem encB_byx (n : Nat) (h : n < 256) : encB (byx n) = #[.int .u8 (n : Int)] := by show #[Value.int .u8 ((n % 256 : Nat) : Int)] = _; rw [Nat.mod_eq_of_lt h]

set_option maxRecDepth 100000 in
set_option maxHeartbeats 2000000 in
theorem all1_in (m : Nat) (hm : 1 ≤ m) (l Bn n₀ v c : Nat) (hv : v < 256) (hc : c < 256) (hBn : Bn < n₀) (J Jx : List Byx → World → Prop) (W : World) (hn₀ : n₀ ≤ W.heap.size)
    (hJ : AbidesFrom W.heap.size J)
    (hY : ∀ pre x W1, J pre W1 → pre.length < (allX v c 256).length → YieldAt Fence.wide (m - 1) Try.prog l (encB x) W1 fun e W' =>
      (e = .returned (.bool true) ∧ J (pre ++ [x]) W' ∧ Below n₀ W1 W') ∨ (e = .returned (.bool false) ∧ Jx (pre ++ [x]) W'))
    (c0 : W.cell? ⟨Bn, 0, none⟩ = some (.int .u8 (v : Int))) (c1 : W.cell? ⟨Bn, 1, none⟩ = some (.int .u8 (c : Int))) (h0 : J [] W) :
    CallsIn Fence.wide m Try.prog 30 #[.func (.yield l) #[] #[], .pointer (some ⟨Bn, 0, none⟩)] W fun e W' => (∃ v, e = .returned v) ∧
      ((∃ ys, ys = allX v c 256 ∧ J ys W') ∨ (∃ pre, pre <+: allX v c 256 ∧ Jx pre W')) := by
  refine callsIn_of_wp Try.func30 rfl trivial ?_ rfl
  simp only [Try.ntmps30, List.size_toArray, List.length_cons, List.length_nil, Nat.reduceAdd, Nat.reduceSub, Array.replicate_succ, Array.replicate_zero, List.push_toArray, List.append_toArray, List.nil_append, List.cons_append]
  gi_wp2_with (fail)
  gi_loopw [3, 4] (fun _ i wr => ∃ k : Nat, k ≤ 256 ∧ i = .int .i64 (k : Int) ∧ wr.cell? ⟨Bn, 0, none⟩ = some (.int .u8 (v : Int)) ∧ wr.cell? ⟨Bn, 1, none⟩ = some (.int .u8 (c : Int)) ∧ n₀ ≤ wr.heap.size ∧ J (allX v c k) wr) (fun _ i _ => 256 - (intOf i).toNat)
  case atStart => exact ⟨0, Nat.zero_le _, rfl, c0, c1, hn₀, h0⟩
  case round =>
    clear c0 c1 h0
    obtain ⟨k, hk, rfl, d0, d1, hz, hJs⟩ := hrel
    by_cases hlt : k < 256
    · have hlt' : (k : Int) < 256 := by omega
      have hmod : (k : Int) % 256 = (k : Int) := by omega
      have hcal := fun W => hasC v c k W hlt hc
      cases hh : hasM v c k
      · rw [hh] at hcal
        gi_wp2_with (refine ⟨trivial, ?_⟩; gi_at_call 12; refine (callsIn_wide.2 (hcal _)).mono ?_; rintro e w2 ⟨rfl, hb2⟩; have e0 := (hb2.cell (p := ⟨Bn, 0, none⟩) (by show Bn < _; omega)).trans d0; have e1 := (hb2.cell (p := ⟨Bn, 1, none⟩) (by show Bn < _; omega)).trans d1; have hJ2 : J (allX v c k) w2 := (hJ _ _ _ none hJs (grown_of_below hb2) (fun r e => by cases e)))
        have hz2 : n₀ ≤ w2.heap.size := Nat.le_trans hz hb2.size
        refine ⟨fun f e => (by cases e), ?_⟩
        gi_wp2
        go_roundw
        case rel => exact ⟨k + 1, by omega, by go_num, e0, e1, hz2, by rw [allX_miss hh]; exact hJ2⟩
        case measure => simp [intOf]; omega
      · rw [hh] at hcal
        have hlen := allX_lt hlt hh
        gi_wp2_with (refine ⟨trivial, ?_⟩; gi_at_call 12; refine (callsIn_wide.2 (hcal _)).mono ?_; rintro e w2 ⟨rfl, hb2⟩; have e0 := (hb2.cell (p := ⟨Bn, 0, none⟩) (by show Bn < _; omega)).trans d0; have e1 := (hb2.cell (p := ⟨Bn, 1, none⟩) (by show Bn < _; omega)).trans d1; have hJ2 : J (allX v c k) w2 := (hJ _ _ _ none hJs (grown_of_below hb2) (fun r e => by cases e)); obtain ⟨fn, tmps, assign, body, hy, hR⟩ := hY (allX v c k) (byx k) w2 hJ2 hlen; rw [encB_byx k hlt] at hy)
        refine hR.mono ?_
        rintro e W3 (⟨rfl, hJ3, hk3⟩ | ⟨rfl, hJx3⟩)
        · have f0 := (hk3.cell (p := ⟨Bn, 0, none⟩) hBn).trans e0
          have f1 := (hk3.cell (p := ⟨Bn, 1, none⟩) hBn).trans e1
          have hz3 : n₀ ≤ W3.heap.size := Nat.le_trans hz (Nat.le_trans hb2.size hk3.size)
          clear hy hR hb2 hJ2 hJs
          gi_wp2
          go_roundw
          case rel => exact ⟨k + 1, by omega, by go_num, f0, f1, hz3, by rw [allX_hit hh]; exact hJ3⟩
          case measure => simp [intOf]; omega
        · clear hy hR
          gi_wp2
          refine bodyPost_ret (results_none rfl _ _ _) rfl ?_
          exact ⟨⟨_, rfl⟩, .inr ⟨allX v c k ++ [byx k], by rw [← allX_hit hh]; exact allX_pre v c 256 (k + 1) (by omega), hJx3⟩⟩
    · obtain rfl : k = 256 := by omega
      gi_wp2
      go_end0
      exact ⟨⟨_, rfl⟩, .inl ⟨_, rfl, hJs⟩⟩
theorem all_stops (m : Nat) (hm : 1 ≤ m) (Bn n₀ v c : Nat) (hv : v < 256) (hc : c < 256) (w : World) (hBn : Bn < n₀) (hn₀ : n₀ ≤ w.heap.size)
    (c0 : w.cell? ⟨Bn, 0, none⟩ = some (.int .u8 (v : Int))) (c1 : w.cell? ⟨Bn, 1, none⟩ = some (.int .u8 (c : Int))) :
    SeqStopsK Fence.wide m Try.prog 30 #[.pointer (some ⟨Bn, 0, none⟩)] encB (Below n₀) (fun ys => ys = allX v c 256) (fun pre => pre <+: allX v c 256) (allX v c 256).length w := fun l J Jx W hW hJ hJx hY h0 =>
  all1_in m hm l Bn n₀ v c hv hc hBn J Jx W (Nat.le_trans hn₀ hW.size) hJ hY ((hW.cell (p := ⟨Bn, 0, none⟩) (by show Bn < _; omega)).trans c0) ((hW.cell (p := ⟨Bn, 1, none⟩) (by show Bn < _; omega)).trans c1) h0
theorem all_any (v c : Nat) (w : World) :
    Calls Try.prog 17 #[.agg #[.int .u8 v, .int .u8 c]] w fun e w' => e = .returned (.func (.func 30) #[] #[.pointer (some ⟨w.heap.size, 0, none⟩)]) ∧ w' = w.alloc (.cells #[.int .u8 v, .int .u8 c] 23) := by
  go_enter Try.func17, Try.ntmps17
  go_wp2
  go_ret
  exact ⟨rfl, rfl⟩
theorem eq_nilFunc (lb : Array Value) (w : World) : Sem.run Try.prog (binOp .eql 32 (.func (.func 30) #[] lb) .nilFunc) w = .ok (.bool false) w := by
  have h : ∀ d, Sem.run Try.prog (Op.equalIn (d + 1) 32 (.func (.func 30) #[] lb) .nilFunc) w = .ok false w := fun d => by
    rw [Op.equalIn]
    simp [go_sem, run_underlying Try.underlying32]
  have h2 : Sem.run Try.prog (Op.equal 32 (.func (.func 30) #[] lb) .nilFunc) w = .ok false w := h 9999
  simp [binOp, go_sem, h2]
/-- A loop over that iterator at the top (variable in slot vx, handed in slot sl): the frame of a round, written over the frame where the loop begins. -/
theorem range_top (sl vx : Nat) {g : Operand} {assign body : Code} {Q : Exit → Act → World → Prop} {a : Act} {w : World} {lb : Array Value} (hg : a.eval g = .func (.func 30) #[] lb)
    {S Sp : List Byx → Prop} {N n₀ : Nat} (hn₀ : n₀ ≤ w.heap.size) (hseq : SeqStopsK Fence.wide 8 Try.prog 30 lb encB (Below n₀) S Sp N w)
    (I : List Byx → World → Prop) (Ix : Code → List Byx → World → Prop) (hI : OwnFrom w.heap.size I) (hIx : ∀ c, OwnFrom w.heap.size (Ix c)) (h0 : I [] w)
    (hassign : ∀ (l : Nat) (x : Byx) (W : World) (K : Act → World → Prop),
      (K { tmps := (a.tmps.setIfInBounds sl (.int .u8 (x.1 : Int))).setIfInBounds vx (.int .u8 (x.1 : Int)), defers := [] } W) →
      assign.wpIn (Fence.wide.inRound l) 7 Try.prog (Exit.then K (fun _ _ _ => False)) { tmps := a.tmps.setIfInBounds sl (.int .u8 (x.1 : Int)), defers := [] } W)
    (hbody : ∀ (l : Nat) (pre : List Byx) (x : Byx) (W : World), w.heap.size ≤ l → (∃ r, W.heap[l]? = some (.loop r)) → I pre W → pre.length < N →
      body.wpIn (Fence.wide.inRound l) 7 Try.prog (ownPostG w.heap.size (Below n₀) I Ix (pre ++ [x]) W) { tmps := (a.tmps.setIfInBounds sl (.int .u8 (x.1 : Int))).setIfInBounds vx (.int .u8 (x.1 : Int)), defers := [] } W)
    (hdone : ∀ (D : Nat) (xs : List Byx) (W : World), w.heap.size ≤ D → S xs → I xs W → W.heap[D]? = some (.deferred (some [])) → Q .normal { a with defers := { target := .collected D, args := #[] } :: a.defers } W)
    (hstop : ∀ (D : Nat) (c : Code) (pre : List Byx) (W : World), w.heap.size ≤ D → Sp pre → Ix c pre W → W.heap[D]? = some (.deferred (some [])) → c.wpIn Fence.wide 9 Try.prog Q { a with defers := { target := .collected D, args := #[] } :: a.defers } W) :
    (Code.rangeFunc g #[sl] assign body).wpIn Fence.wide 9 Try.prog Q a w := by
  refine wpIn_rangeFunc_ownH (F := Fence.wide) (n := 9) rfl (by decide) (gf := 30) (lb := lb) hg trivial (enters_of Try.func30 (by kernel_rfl) rfl) hseq belowK_t (belowK_b hn₀) (Below.refl _ _) (fun _ => rfl) I Ix hI hIx h0
    (fun x a' W => a' = { tmps := (a.tmps.setIfInBounds sl (.int .u8 (x.1 : Int))).setIfInBounds vx (.int .u8 (x.1 : Int)), defers := [] })
    ?_ ?_ ?_ hdone hstop
  · intro x a' s A B row h4 hg' hr
    exact h4
  · intro l pre x W K hi hK
    have hfold : Array.foldl (fun (t : Array Value) (x : Nat × Value) => match x with | (p, v) => t.setIfInBounds p v) a.tmps ((#[sl] : Array Nat).zip (encB x)) = a.tmps.setIfInBounds sl (.int .u8 (x.1 : Int)) := by simp [encB]
    have hgo := hassign l x W K ?_
    · rw [← hfold] at hgo; exact hgo
    exact hK _ _ ((KeepsOthers.refl _).from _) (Below.refl _ W) hi rfl
  · rintro l pre x a' W hl hr hi rfl hN
    exact hbody l pre x W hl hr hi hN
/-- The same within a round. -/
theorem range_in (l₀ : Nat) (r₀ : Loop) (sl vx : Nat) {g : Operand} {assign body : Code} {Q : Exit → Act → World → Prop} {a : Act} {w : World} {lb : Array Value} (hl₀ : w.heap[l₀]? = some (.loop r₀)) (hg : a.eval g = .func (.func 30) #[] lb)
    {S Sp : List Byx → Prop} {N n₀ : Nat} (hn₀ : n₀ ≤ w.heap.size) (hseq : SeqStopsK (Fence.wide.inRound l₀) 6 Try.prog 30 lb encB (Below n₀) S Sp N w)
    (I : List Byx → World → Prop) (Ix : Code → List Byx → World → Prop) (hI : OwnFrom w.heap.size I) (hIx : ∀ c, OwnFrom w.heap.size (Ix c)) (h0 : I [] w)
    (hassign : ∀ (l : Nat) (x : Byx) (W : World) (K : Act → World → Prop),
      (K { tmps := (a.tmps.setIfInBounds sl (.int .u8 (x.1 : Int))).setIfInBounds vx (.int .u8 (x.1 : Int)), defers := [] } W) →
      assign.wpIn ((Fence.wide.inRound l₀).inRound l) 5 Try.prog (Exit.then K (fun _ _ _ => False)) { tmps := a.tmps.setIfInBounds sl (.int .u8 (x.1 : Int)), defers := [] } W)
    (hbody : ∀ (l : Nat) (pre : List Byx) (x : Byx) (W : World), w.heap.size ≤ l → (∃ r, W.heap[l]? = some (.loop r)) → I pre W → pre.length < N →
      body.wpIn ((Fence.wide.inRound l₀).inRound l) 5 Try.prog (ownPostG w.heap.size (Below n₀) I Ix (pre ++ [x]) W) { tmps := (a.tmps.setIfInBounds sl (.int .u8 (x.1 : Int))).setIfInBounds vx (.int .u8 (x.1 : Int)), defers := [] } W)
    (hdone : ∀ (xs : List Byx) (W : World), S xs → I xs W → Q .normal a W)
    (hstop : ∀ (c : Code) (pre : List Byx) (W : World), Sp pre → Ix c pre W → c.wpIn (Fence.wide.inRound l₀) 7 Try.prog Q a W) :
    (Code.rangeFunc g #[sl] assign body).wpIn (Fence.wide.inRound l₀) 7 Try.prog Q a w := by
  refine wpIn_rangeFunc_ownN (F := Fence.wide.inRound l₀) (n := 7) (l₀ := l₀) (r₀ := r₀) rfl hl₀ (by decide) (gf := 30) (lb := lb) hg trivial (enters_of Try.func30 (by kernel_rfl) rfl) hseq belowK_t (belowK_b hn₀) (Below.refl _ _) (fun _ => rfl) I Ix hI hIx h0
    (fun x a' W => a' = { tmps := (a.tmps.setIfInBounds sl (.int .u8 (x.1 : Int))).setIfInBounds vx (.int .u8 (x.1 : Int)), defers := [] })
    ?_ ?_ ?_ hdone hstop
  · intro x a' s A B row h4 hg' hr
    exact h4
  · intro l pre x W K hi hK
    have hfold : Array.foldl (fun (t : Array Value) (x : Nat × Value) => match x with | (p, v) => t.setIfInBounds p v) a.tmps ((#[sl] : Array Nat).zip (encB x)) = a.tmps.setIfInBounds sl (.int .u8 (x.1 : Int)) := by simp [encB]
    have hgo := hassign l x W K ?_
    · rw [← hfold] at hgo; exact hgo
    exact hK _ _ ((KeepsOthers.refl _).from _) (Below.refl _ W) hi rfl
  · rintro l pre x a' W hl hr hi rfl hN
    exact hbody l pre x W hl hr hi hN
end Go.Proofs.Ytphfjhkbbodfaaa
