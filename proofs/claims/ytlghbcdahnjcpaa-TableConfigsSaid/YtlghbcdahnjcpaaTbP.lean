/-
  The iterator that (*Table).All hands back: one contract, for every loop body that keeps what lay below it; a loop over it at the top. Written by tools/mkTbR1.py.
-/
import Derived.RangeFuncNested
import Derived.RangeFuncBound
import Derived.RangeFuncCalls
import Derived.RangeFuncLeaves
import Derived.Shelf.Abstract
import Derived.Shelf.RegionOpen
import Derived.WalkKit
import Derived.OwnWalkIn
import Derived.TacticsInMore
import Derived.LoopNIn
import Derived.LoopIn
import Derived.Test.YtlghbcdahnjcpaaTbN
namespace Go.Proofs.Ytlghbcdahnjcpaa
open Go.RowKit Go.Shelf
set_option linter.unusedVariables false
set_option linter.unusedSimpArgs false
attribute [local go_sem] Oper.semAt_some

/-- What a round may know of what it is handed: a place, a rule. -/
abbrev Rux := { x : Nat × Ru // BdR x.2 }
theorem ruZ_bd : BdR ruZ := by
  have n1 : (0 : Nat) < 4294967296 := by decide
  have n2 : (0 : Nat) < 65536 := by decide
  have n4 : (0 : Nat) < 256 := by decide
  have n5 : I64 0 := by unfold I64; decide
  exact ⟨n1, n1, n2, n2, n2, n2, n4, n4, n5, n5, n5, n5⟩
def decR (R : Ru) : Decidable (BdR R) := by unfold BdR I64; infer_instance
def rux (k : Nat) (R : Ru) : Rux := @dite _ (BdR R) (decR R) (fun h => ⟨(k, R), h⟩) (fun _ => ⟨(k, ruZ), ruZ_bd⟩)
theorem rux_in (k : Nat) {R : Ru} (h : BdR R) : (rux k R).1 = (k, R) := by unfold rux; rw [dif_pos h]
/-- The rules with their places. -/
def allX : List Ru → Nat → List Rux
  | [], _ => []
  | R :: l, k => rux k R :: allX l (k + 1)
theorem allX_length : ∀ (l : List Ru) (k : Nat), (allX l k).length = l.length
  | [], _ => rfl
  | R :: l, k => by simp [allX, allX_length l (k + 1)]
theorem allX_split (l : List Ru) (k : Nat) (h : k ≤ l.length) : allX l 0 = allX (l.take k) 0 ++ allX (l.drop k) k := by
  have gen : ∀ (l : List Ru) (b k : Nat), k ≤ l.length → allX l b = allX (l.take k) b ++ allX (l.drop k) (b + k) := by
    intro l
    induction l with
    | nil => intro b k hk; obtain rfl : k = 0 := by simpa using hk
             rfl
    | cons R l ih =>
      intro b k hk
      cases k with
      | zero => rfl
      | succ k => simp only [List.take_succ_cons, List.drop_succ_cons, allX, List.cons_append]; rw [ih (b + 1) k (by simpa using hk), show b + 1 + k = b + (k + 1) by omega]
  simpa using gen l 0 k h
theorem allX_next {l : List Ru} {k : Nat} (h : k < l.length) : allX (l.take (k + 1)) 0 = allX (l.take k) 0 ++ [rux k l[k]] := by
  have e := allX_split (l.take (k + 1)) k (by rw [List.length_take]; omega)
  rw [List.take_take, Nat.min_eq_left (by omega)] at e
  rw [e]
  congr 1
  rw [List.drop_take, show k + 1 - k = 1 by omega, drop_cons h]
  rfl
theorem allX_pre {l : List Ru} {k : Nat} (h : k ≤ l.length) : allX (l.take k) 0 <+: allX l 0 := ⟨allX (l.drop k) k, (allX_split l k h).symm⟩
theorem grown_of_below {w w' : World} (h : Below w.heap.size w w') : w.grownBy w' none := ⟨h.os, h.tape, h.output, h.size, fun k hk _ => h.block k hk⟩
def encT (x : Rux) : Array Value := #[.int .i64 (x.1.1 : Int), .agg #[.int .i64 (x.1.2).i, .int .u32 ((x.1.2).s : Int), .int .i64 (x.1.2).sl, .int .u32 ((x.1.2).d : Int), .int .i64 (x.1.2).dl, .int .u16 ((x.1.2).p.1 : Int), .int .u16 ((x.1.2).p.2 : Int), .int .u16 ((x.1.2).q.1 : Int), .int .u16 ((x.1.2).q.2 : Int), .int .u8 ((x.1.2).m.1 : Int), .int .u8 ((x.1.2).m.2 : Int), .int .i64 (x.1.2).act]]
theorem encT_rux (k : Nat) {R : Ru} (h : BdR R) : encT (rux k R) = #[.int .i64 (k : Int), .agg #[.int .i64 R.i, .int .u32 (R.s : Int), .int .i64 R.sl, .int .u32 (R.d : Int), .int .i64 R.dl, .int .u16 (R.p.1 : Int), .int .u16 (R.p.2 : Int), .int .u16 (R.q.1 : Int), .int .u16 (R.q.2 : Int), .int .u8 (R.m.1 : Int), .int .u8 (R.m.2 : Int), .int .i64 R.act]] := by unfold encT; rw [rux_in k h]
theorem rowU_onB {w w' : World} {b n₀ : Nat} {v : Value} {l : List Ru} (h : RowU w b v l) (hb : Below n₀ w w') (hv : ∀ k, v.ownBlock = some k → k < n₀) : RowU w' b v l := by
  refine ⟨h.1, ?_⟩
  rcases h.2 with h2 | ⟨g, cap, cur, hvv, hg, hh, r⟩
  · exact .inl h2
  · exact .inr ⟨g, cap, cur, hvv, hg, by rw [hb.block g (hv g (by rw [hvv]; rfl))]; exact hh, r⟩
set_option maxRecDepth 100000 in
set_option maxHeartbeats 4000000 in
theorem all1_in (m : Nat) (hm : 1 ≤ m) (l Bn n₀ t : Nat) (v : Value) (M A : Int) (L : List Ru) (hL : L.length ≤ 200000) (hbd : ∀ k (hk : k < L.length), BdR (L[k]'hk)) (hBn : Bn < n₀) (ht : t < n₀) (hv : ∀ k, v.ownBlock = some k → k < n₀)
    (J Jx : List Rux → World → Prop) (W : World) (hn₀ : n₀ ≤ W.heap.size) (hJ : AbidesFrom W.heap.size J)
    (hY : ∀ pre x W1, J pre W1 → pre.length < (allX L 0).length → YieldAt Fence.wide (m - 1) Try.prog l (encT x) W1 fun e W' =>
      (e = .returned (.bool true) ∧ J (pre ++ [x]) W' ∧ Below n₀ W1 W') ∨ (e = .returned (.bool false) ∧ Jx (pre ++ [x]) W'))
    (c0 : W.cell? ⟨Bn, 0, none⟩ = some (.pointer (some ⟨t, 0, none⟩))) (hT : Tab W t v M A L) (h0 : J [] W) :
    CallsIn Fence.wide m Try.prog 46 #[.func (.yield l) #[] #[], .pointer (some ⟨Bn, 0, none⟩)] W fun e W' => (∃ v, e = .returned v) ∧
      ((∃ ys, ys = allX L 0 ∧ J ys W') ∨ (∃ pre, pre <+: allX L 0 ∧ Jx pre W')) := by
  obtain ⟨c1, c2, c3⟩ := blk3 hT.1
  have HR : Hid (RowU W 0 v L) := hT.2.1
  obtain ⟨ad, cap, rfl, hcap, hat⟩ := hT.2.1.form
  obtain ⟨n, hn⟩ : ∃ n, n = L.length := ⟨_, rfl⟩
  have Hn : Hid (n = L.length) := hn
  have HX : Hid ((allX L 0).length = n) := by show _ = _; rw [allX_length, hn]
  have HV : Hid (∀ k, (Value.slice ad L.length cap).ownBlock = some k → k < n₀) := hv
  have HJ : Hid (AbidesFrom W.heap.size J) := hJ
  rw [← hn] at c3 hL hcap HR HV
  have hn0 : (n : Int) ≤ 200000 := by omega
  clear hT hat hn hv hJ
  refine callsIn_of_wp Try.func46 rfl trivial ?_ rfl
  simp only [Try.ntmps46, List.size_toArray, List.length_cons, List.length_nil, Nat.reduceAdd, Nat.reduceSub, Array.replicate_succ, Array.replicate_zero, List.push_toArray, List.append_toArray, List.nil_append, List.cons_append]
  gi_wp2_with (fail)
  gi_loopw [12] (fun i wr => ∃ k : Nat, k ≤ n ∧ i = .int .i64 (k : Int) ∧ n₀ ≤ wr.heap.size ∧ W.heap.size ≤ wr.heap.size ∧ Hid (RowU wr 0 (.slice ad n cap) L) ∧ Hid (J (allX (L.take k) 0) wr)) (fun i _ => n - (intOf i).toNat)
  case atStart => exact ⟨0, Nat.zero_le _, rfl, hn₀, Nat.le_refl _, HR.out, h0⟩
  case round =>
    clear c0 c1 c2 c3 h0 HR
    obtain ⟨k, hk, rfl, hz, hzW, HRr, HJs⟩ := hrel
    by_cases hlt : k < n
    · have hkl : k < L.length := by rw [← Hn.out]; exact hlt
      have hlt' : (k : Int) < (n : Int) := by omega
      obtain ⟨ad', cap', e1, _, hat⟩ := HRr.out.form
      rw [← Hn.out] at e1
      cases e1
      obtain ⟨g, rfl, _, hg, hc⟩ := hat (by omega)
      obtain ⟨p, hp⟩ : ∃ p, p = L[k]'hkl := ⟨_, rfl⟩
      have hc1 := hc k hkl
      rw [← hp] at hc1
      have HP : Hid (rux k (L[k]'hkl) = rux k p) := by show _ = _; rw [hp]
      have hbp : Hid (BdR p) := by show BdR p; rw [hp]; exact hbd k hkl
      clear hc hat
      have x0 : wr.cell? ⟨g, k * 12, none⟩ = some (.int .i64 p.i) := hc1 0 (by decide)
      have x1 : wr.cell? ⟨g, k * 12 + 1, none⟩ = some (.int .u32 (p.s : Int)) := hc1 1 (by decide)
      have x2 : wr.cell? ⟨g, k * 12 + 2, none⟩ = some (.int .i64 p.sl) := hc1 2 (by decide)
      have x3 : wr.cell? ⟨g, k * 12 + 3, none⟩ = some (.int .u32 (p.d : Int)) := hc1 3 (by decide)
      have x4 : wr.cell? ⟨g, k * 12 + 4, none⟩ = some (.int .i64 p.dl) := hc1 4 (by decide)
      have x5 : wr.cell? ⟨g, k * 12 + 5, none⟩ = some (.int .u16 (p.p.1 : Int)) := hc1 5 (by decide)
      have x6 : wr.cell? ⟨g, k * 12 + 6, none⟩ = some (.int .u16 (p.p.2 : Int)) := hc1 6 (by decide)
      have x7 : wr.cell? ⟨g, k * 12 + 7, none⟩ = some (.int .u16 (p.q.1 : Int)) := hc1 7 (by decide)
      have x8 : wr.cell? ⟨g, k * 12 + 8, none⟩ = some (.int .u16 (p.q.2 : Int)) := hc1 8 (by decide)
      have x9 : wr.cell? ⟨g, k * 12 + 9, none⟩ = some (.int .u8 (p.m.1 : Int)) := hc1 9 (by decide)
      have x10 : wr.cell? ⟨g, k * 12 + 10, none⟩ = some (.int .u8 (p.m.2 : Int)) := hc1 10 (by decide)
      have x11 : wr.cell? ⟨g, k * 12 + 11, none⟩ = some (.int .i64 p.act) := hc1 11 (by decide)
      clear hc1 hp
      have hne : ¬ g = wr.heap.size := by omega
      have hlen : (allX (L.take k) 0).length < (allX L 0).length := by rw [HX.out, allX_length, List.length_take]; omega
      have hJ2 : J (allX (L.take k) 0) (wr.alloc (.cells #[.int .i64 p.i, .int .u32 (p.s : Int), .int .i64 p.sl, .int .u32 (p.d : Int), .int .i64 p.dl, .int .u16 (p.p.1 : Int), .int .u16 (p.p.2 : Int), .int .u16 (p.q.1 : Int), .int .u16 (p.q.2 : Int), .int .u8 (p.m.1 : Int), .int .u8 (p.m.2 : Int), .int .i64 p.act] 43)) := HJ.out _ _ _ none HJs.out (grown_of_below ((Below.refl _ _).alloc (Nat.le_refl _) _)) (fun r e => by cases e)
      obtain ⟨fn, tmps, assign, body, hy, hR⟩ := hY _ (rux k p) _ hJ2 hlen
      rw [encT_rux k hbp.out] at hy
      have HA : Hid (allX (L.take k) 0 ++ [rux k p] = allX (L.take (k + 1)) 0) := by show _ = _; rw [allX_next hkl, HP.out]
      have HR2 : Hid (RowU (wr.alloc (.cells #[.int .i64 p.i, .int .u32 (p.s : Int), .int .i64 p.sl, .int .u32 (p.d : Int), .int .i64 p.dl, .int .u16 (p.p.1 : Int), .int .u16 (p.p.2 : Int), .int .u16 (p.q.1 : Int), .int .u16 (p.q.2 : Int), .int .u8 (p.m.1 : Int), .int .u8 (p.m.2 : Int), .int .i64 p.act] 43)) 0 (.slice (some ⟨g, 0, none⟩) n cap) L) := HRr.out.alloc _
      clear hJ2 HJs HRr HP hlen
      gi_wp2_with (fail)
      refine hR.mono ?_
      rintro e W3 (⟨rfl, hJ3, hk3⟩ | ⟨rfl, hJx3⟩)
      · have HR3 : Hid (RowU W3 0 (.slice (some ⟨g, 0, none⟩) n cap) L) := rowU_onB HR2.out hk3 HV.out
        have hz4 := hk3.size
        simp at hz4
        have hz3 : n₀ ≤ W3.heap.size := by omega
        have hzW3 : W.heap.size ≤ W3.heap.size := by omega
        rw [HA.out] at hJ3
        have HJ3 : Hid (J (allX (L.take (k + 1)) 0) W3) := hJ3
        clear hy hR hk3 hJ3 x0 x1 x2 x3 x4 x5 x6 x7 x8 x9 x10 x11
        gi_wp2
        go_roundw
        case rel => exact ⟨k + 1, by omega, by go_num, hz3, hzW3, HR3.out, HJ3.out⟩
        case measure => simp [intOf]; omega
      · rw [HA.out] at hJx3
        have HJ3 : Hid (Jx (allX (L.take (k + 1)) 0) W3) := hJx3
        clear hy hR hJx3 x0 x1 x2 x3 x4 x5 x6 x7 x8 x9 x10 x11
        gi_wp2
        refine bodyPost_ret (results_none rfl _ _ _) rfl ?_
        exact ⟨⟨_, rfl⟩, .inr ⟨allX (L.take (k + 1)) 0, allX_pre (by omega), HJ3.out⟩⟩
    · obtain rfl : k = n := by omega
      gi_wp2
      go_end0
      have e : L.take k = L := List.take_of_length_le (by rw [Hn.out]; exact Nat.le_refl _)
      have := HJs.out
      rw [e] at this
      exact ⟨⟨_, rfl⟩, .inl ⟨_, rfl, this⟩⟩
theorem all_stops (m : Nat) (hm : 1 ≤ m) (Bn n₀ t : Nat) (v : Value) (M A : Int) (L : List Ru) (hL : L.length ≤ 200000) (hbd : ∀ k (hk : k < L.length), BdR (L[k]'hk)) (w : World) (hBn : Bn < n₀) (ht : t < n₀) (hv : ∀ k, v.ownBlock = some k → k < n₀) (hn₀ : n₀ ≤ w.heap.size)
    (c0 : w.cell? ⟨Bn, 0, none⟩ = some (.pointer (some ⟨t, 0, none⟩))) (hT : Tab w t v M A L) :
    SeqStopsK Fence.wide m Try.prog 46 #[.pointer (some ⟨Bn, 0, none⟩)] encT (Below n₀) (fun ys => ys = allX L 0) (fun pre => pre <+: allX L 0) (allX L 0).length w := fun l J Jx W hW hJ hJx hY h0 =>
  all1_in m hm l Bn n₀ t v M A L hL hbd hBn ht hv J Jx W (Nat.le_trans hn₀ hW.size) hJ hY ((hW.cell (p := ⟨Bn, 0, none⟩) (by show Bn < _; omega)).trans c0) (hT.on hW) h0
/-- No table: nothing comes. -/
theorem all0_in (m : Nat) (hm : 1 ≤ m) (l Bn : Nat) (J Jx : List Rux → World → Prop) (W : World) (c0 : W.cell? ⟨Bn, 0, none⟩ = some (.pointer none)) (h0 : J [] W) :
    CallsIn Fence.wide m Try.prog 46 #[.func (.yield l) #[] #[], .pointer (some ⟨Bn, 0, none⟩)] W fun e W' => (∃ v, e = .returned v) ∧
      ((∃ ys, ys = ([] : List Rux) ∧ J ys W') ∨ (∃ pre, pre <+: ([] : List Rux) ∧ Jx pre W')) := by
  refine callsIn_of_wp Try.func46 rfl trivial ?_ rfl
  simp only [Try.ntmps46, List.size_toArray, List.length_cons, List.length_nil, Nat.reduceAdd, Nat.reduceSub, Array.replicate_succ, Array.replicate_zero, List.push_toArray, List.append_toArray, List.nil_append, List.cons_append]
  gi_wp2
  refine bodyPost_ret (results_none rfl _ _ _) rfl ?_
  exact ⟨⟨_, rfl⟩, .inl ⟨[], rfl, h0⟩⟩
theorem all0_stops (m : Nat) (hm : 1 ≤ m) (Bn n₀ : Nat) (w : World) (hBn : Bn < n₀) (hn₀ : n₀ ≤ w.heap.size) (c0 : w.cell? ⟨Bn, 0, none⟩ = some (.pointer none)) :
    SeqStopsK Fence.wide m Try.prog 46 #[.pointer (some ⟨Bn, 0, none⟩)] encT (Below n₀) (fun ys => ys = ([] : List Rux)) (fun pre => pre <+: ([] : List Rux)) 0 w := fun l J Jx W hW hJ hJx hY h0 =>
  all0_in m hm l Bn J Jx W ((hW.cell (p := ⟨Bn, 0, none⟩) (by show Bn < _; omega)).trans c0) h0
/-- A loop over that iterator at the top: the place in slot vx, the rule boxed in slot bx, handed in slots s1, s2: the frame of a round, written over the frame where the loop begins. -/
theorem range_top (s1 s2 vx bx : Nat) {g : Operand} {assign body : Code} {Q : Exit → Act → World → Prop} {a : Act} {w : World} {lb : Array Value} (hg : a.eval g = .func (.func 46) #[] lb)
    {S Sp : List Rux → Prop} {N n₀ : Nat} (hn₀ : n₀ ≤ w.heap.size) (hseq : SeqStopsK Fence.wide 8 Try.prog 46 lb encT (Below n₀) S Sp N w)
    (I : List Rux → World → Prop) (Ix : Code → List Rux → World → Prop) (hI : OwnFrom w.heap.size I) (hIx : ∀ c, OwnFrom w.heap.size (Ix c)) (h0 : I [] w)
    (hassign : ∀ (l : Nat) (pre : List Rux) (x : Rux) (W : World) (K : Act → World → Prop), I pre W → w.heap.size ≤ W.heap.size →
      (K { tmps := (((a.tmps.setIfInBounds s1 (.int .i64 (x.1.1 : Int))).setIfInBounds s2 (.agg #[.int .i64 (x.1.2).i, .int .u32 ((x.1.2).s : Int), .int .i64 (x.1.2).sl, .int .u32 ((x.1.2).d : Int), .int .i64 (x.1.2).dl, .int .u16 ((x.1.2).p.1 : Int), .int .u16 ((x.1.2).p.2 : Int), .int .u16 ((x.1.2).q.1 : Int), .int .u16 ((x.1.2).q.2 : Int), .int .u8 ((x.1.2).m.1 : Int), .int .u8 ((x.1.2).m.2 : Int), .int .i64 (x.1.2).act])).setIfInBounds vx (.int .i64 (x.1.1 : Int))).setIfInBounds bx (.pointer (some ⟨W.heap.size, 0, none⟩)), defers := [] } (W.alloc (.cells #[.int .i64 (x.1.2).i, .int .u32 ((x.1.2).s : Int), .int .i64 (x.1.2).sl, .int .u32 ((x.1.2).d : Int), .int .i64 (x.1.2).dl, .int .u16 ((x.1.2).p.1 : Int), .int .u16 ((x.1.2).p.2 : Int), .int .u16 ((x.1.2).q.1 : Int), .int .u16 ((x.1.2).q.2 : Int), .int .u8 ((x.1.2).m.1 : Int), .int .u8 ((x.1.2).m.2 : Int), .int .i64 (x.1.2).act] 43))) →
      assign.wpIn (Fence.wide.inRound l) 7 Try.prog (Exit.then K (fun _ _ _ => False)) { tmps := (a.tmps.setIfInBounds s1 (.int .i64 (x.1.1 : Int))).setIfInBounds s2 (.agg #[.int .i64 (x.1.2).i, .int .u32 ((x.1.2).s : Int), .int .i64 (x.1.2).sl, .int .u32 ((x.1.2).d : Int), .int .i64 (x.1.2).dl, .int .u16 ((x.1.2).p.1 : Int), .int .u16 ((x.1.2).p.2 : Int), .int .u16 ((x.1.2).q.1 : Int), .int .u16 ((x.1.2).q.2 : Int), .int .u8 ((x.1.2).m.1 : Int), .int .u8 ((x.1.2).m.2 : Int), .int .i64 (x.1.2).act]), defers := [] } W)
    (hsz : ∀ pre W, I pre W → w.heap.size ≤ W.heap.size)
    (hbody : ∀ (l : Nat) (pre : List Rux) (x : Rux) (Bx : Nat) (W : World), w.heap.size ≤ l → (∃ r, W.heap[l]? = some (.loop r)) → w.heap.size ≤ Bx → W.heap[Bx]? = some (.cells #[.int .i64 (x.1.2).i, .int .u32 ((x.1.2).s : Int), .int .i64 (x.1.2).sl, .int .u32 ((x.1.2).d : Int), .int .i64 (x.1.2).dl, .int .u16 ((x.1.2).p.1 : Int), .int .u16 ((x.1.2).p.2 : Int), .int .u16 ((x.1.2).q.1 : Int), .int .u16 ((x.1.2).q.2 : Int), .int .u8 ((x.1.2).m.1 : Int), .int .u8 ((x.1.2).m.2 : Int), .int .i64 (x.1.2).act] 43) → I pre W → pre.length < N →
      body.wpIn (Fence.wide.inRound l) 7 Try.prog (ownPostG w.heap.size (Below n₀) I Ix (pre ++ [x]) W) { tmps := (((a.tmps.setIfInBounds s1 (.int .i64 (x.1.1 : Int))).setIfInBounds s2 (.agg #[.int .i64 (x.1.2).i, .int .u32 ((x.1.2).s : Int), .int .i64 (x.1.2).sl, .int .u32 ((x.1.2).d : Int), .int .i64 (x.1.2).dl, .int .u16 ((x.1.2).p.1 : Int), .int .u16 ((x.1.2).p.2 : Int), .int .u16 ((x.1.2).q.1 : Int), .int .u16 ((x.1.2).q.2 : Int), .int .u8 ((x.1.2).m.1 : Int), .int .u8 ((x.1.2).m.2 : Int), .int .i64 (x.1.2).act])).setIfInBounds vx (.int .i64 (x.1.1 : Int))).setIfInBounds bx (.pointer (some ⟨Bx, 0, none⟩)), defers := [] } W)
    (hdone : ∀ (D : Nat) (xs : List Rux) (W : World), w.heap.size ≤ D → S xs → I xs W → W.heap[D]? = some (.deferred (some [])) → Q .normal { a with defers := { target := .collected D, args := #[] } :: a.defers } W)
    (hstop : ∀ (D : Nat) (c : Code) (pre : List Rux) (W : World), w.heap.size ≤ D → Sp pre → Ix c pre W → W.heap[D]? = some (.deferred (some [])) → c.wpIn Fence.wide 9 Try.prog Q { a with defers := { target := .collected D, args := #[] } :: a.defers } W) :
    (Code.rangeFunc g #[s1, s2] assign body).wpIn Fence.wide 9 Try.prog Q a w := by
  refine wpIn_rangeFunc_ownH (F := Fence.wide) (n := 9) rfl (by decide) (gf := 46) (lb := lb) hg trivial (enters_of Try.func46 (by kernel_rfl) rfl) hseq belowK_t (belowK_b hn₀) (Below.refl _ _) (fun _ => rfl) I Ix hI hIx h0
    (fun x a' W => ∃ Bx, w.heap.size ≤ Bx ∧ W.heap[Bx]? = some (.cells #[.int .i64 (x.1.2).i, .int .u32 ((x.1.2).s : Int), .int .i64 (x.1.2).sl, .int .u32 ((x.1.2).d : Int), .int .i64 (x.1.2).dl, .int .u16 ((x.1.2).p.1 : Int), .int .u16 ((x.1.2).p.2 : Int), .int .u16 ((x.1.2).q.1 : Int), .int .u16 ((x.1.2).q.2 : Int), .int .u8 ((x.1.2).m.1 : Int), .int .u8 ((x.1.2).m.2 : Int), .int .i64 (x.1.2).act] 43) ∧ a' = { tmps := (((a.tmps.setIfInBounds s1 (.int .i64 (x.1.1 : Int))).setIfInBounds s2 (.agg #[.int .i64 (x.1.2).i, .int .u32 ((x.1.2).s : Int), .int .i64 (x.1.2).sl, .int .u32 ((x.1.2).d : Int), .int .i64 (x.1.2).dl, .int .u16 ((x.1.2).p.1 : Int), .int .u16 ((x.1.2).p.2 : Int), .int .u16 ((x.1.2).q.1 : Int), .int .u16 ((x.1.2).q.2 : Int), .int .u8 ((x.1.2).m.1 : Int), .int .u8 ((x.1.2).m.2 : Int), .int .i64 (x.1.2).act])).setIfInBounds vx (.int .i64 (x.1.1 : Int))).setIfInBounds bx (.pointer (some ⟨Bx, 0, none⟩)), defers := [] })
    ?_ ?_ ?_ hdone hstop
  · rintro x a' s A B row ⟨Bx, h1, h2, h4⟩ hg' hr
    have hr' : ∀ r, row = some r → ∃ o : Obj, A.heap[r]? = some o ∧ o.isCells = false := fun r e => (hr r e).2
    refine ⟨Bx, h1, ?_, h4⟩
    rw [hg'.block Bx (blk_lt h2) (fun e => ?_)]
    · exact h2
    · obtain ⟨o, ho, hc⟩ := hr' Bx e.symm
      rw [h2] at ho
      cases ho
      cases hc
  · intro l pre x W K hi hK
    have hz := hsz pre W hi
    have hfold : Array.foldl (fun (t : Array Value) (x : Nat × Value) => match x with | (p, v) => t.setIfInBounds p v) a.tmps ((#[s1, s2] : Array Nat).zip (encT x)) = (a.tmps.setIfInBounds s1 (.int .i64 (x.1.1 : Int))).setIfInBounds s2 (.agg #[.int .i64 (x.1.2).i, .int .u32 ((x.1.2).s : Int), .int .i64 (x.1.2).sl, .int .u32 ((x.1.2).d : Int), .int .i64 (x.1.2).dl, .int .u16 ((x.1.2).p.1 : Int), .int .u16 ((x.1.2).p.2 : Int), .int .u16 ((x.1.2).q.1 : Int), .int .u16 ((x.1.2).q.2 : Int), .int .u8 ((x.1.2).m.1 : Int), .int .u8 ((x.1.2).m.2 : Int), .int .i64 (x.1.2).act]) := by simp [encT]
    have hgo := hassign l pre x W K hi hz ?_
    · rw [← hfold] at hgo; exact hgo
    exact hK _ _ ((KeepsOthers.alloc _ _).from _) ((Below.refl _ W).alloc (by omega) _) (hI.alloc _ hi) ⟨W.heap.size, hz, blk_new W _, rfl⟩
  · rintro l pre x a' W hl hr hi ⟨Bx, h1, h2, rfl⟩ hN
    exact hbody l pre x Bx W hl hr h1 h2 hi hN
end Go.Proofs.Ytlghbcdahnjcpaa
