/-
  The nodes on the way to a key: the iterator that path hands back.
-/
import Derived.Test.YtfbkjghipahipaaTrL
import Derived.Test.YtfbkjghipahipaaTrX
import Derived.Sort.CutIn
namespace Go.Proofs.Ytfbkjghipahipaa
open Go.RowKit Go.Shelf
set_option linter.unusedVariables false
set_option linter.unusedSimpArgs false
attribute [local go_sem] Oper.semAt_some

/-- A length and a number of a place. -/
abbrev PX (W : Nat) (A : List Nd) := { x : Nat × Nat // x.1 ≤ W ∧ 1 ≤ x.2 ∧ x.2 ≤ A.length }
def mkP (W : Nat) (A : List Nd) (n r : Nat) : List (PX W A) := if h : n ≤ W ∧ 1 ≤ r ∧ r ≤ A.length then [⟨(n, r), h⟩] else []
def pthX (W : Nat) (A : List Nd) : Nat → Nat → Nat → Nat → Nat → List (PX W A)
  | 0, h, r, k, n => if r = 0 then [] else mkP W A n r
  | d + 1, h, r, k, n => if r = 0 then [] else mkP W A n r ++ pthX W A d (h - 1) (kidA (gt A r) (sid k h)) k (n + 1)
theorem pthX_z (W : Nat) (A : List Nd) (d h k n : Nat) : pthX W A d h 0 k n = [] := by cases d <;> simp [pthX]
theorem pthX_val {W : Nat} {A : List Nd} {f c : Nat} (bd : Bd ⟨A, f, c⟩) : ∀ {d h r k n : Nat}, r ≤ A.length → n + d ≤ W → (pthX W A d h r k n).map (fun x => x.1) = pth A d h r k n
  | 0, h, r, k, n, hr, hn => by
    simp only [pthX, pth]
    by_cases r0 : r = 0
    · simp [r0]
    · rw [if_neg r0, if_neg r0]; unfold mkP; rw [dif_pos ⟨by omega, by omega, hr⟩]; rfl
  | d + 1, h, r, k, n, hr, hn => by
    simp only [pthX, pth]
    by_cases r0 : r = 0
    · simp [r0]
    · rw [if_neg r0, if_neg r0]; unfold mkP; rw [dif_pos ⟨by omega, by omega, hr⟩]
      have := kid_le bd r (sid k h)
      simp only [List.map_append, List.map_cons, List.map_nil, List.singleton_append]
      rw [pthX_val bd this (by omega)]
def encP {W : Nat} {A : List Nd} (x : PX W A) : Array Value := #[.int .i64 (x.1.1 : Int), .int .i64 (x.1.2 : Int)]
theorem grown_of_below {w w' : World} (h : Below w.heap.size w w') : w.grownBy w' none := ⟨h.os, h.tape, h.output, h.size, fun k hk _ => h.block k hk⟩
/-- Certain blocks stay. -/
def Kpt (P : Nat → Prop) (W W' : World) : Prop := W.heap.size ≤ W'.heap.size ∧ ∀ k, P k → W'.heap[k]? = W.heap[k]?
theorem kpt_t {P : Nat → Prop} {A B C : World} (h : Kpt P A B) (k : Kpt P B C) : Kpt P A C := ⟨Nat.le_trans h.1 k.1, fun i hi => (k.2 i hi).trans (h.2 i hi)⟩
theorem kpt_b {P : Nat → Prop} {w : World} (hP : ∀ k, P k → k < w.heap.size) (W : World) (l : Nat) (o o' : Obj) (hl : w.heap.size ≤ l) (h : W.heap[l]? = some o) (_ : o.isCells = false) (_ : o.isWalk = false) : Kpt P W (W.putObj l o') :=
  ⟨(grownBy_putObj' W l o').size, fun k hk => World.putObj_heap_other (by have := hP k hk; omega)⟩
theorem kpt_r {P : Nat → Prop} (A : World) : Kpt P A A := ⟨Nat.le_refl _, fun _ _ => rfl⟩
theorem kpt_below {P : Nat → Prop} {n₀ : Nat} {A B : World} (hP : ∀ k, P k → k < n₀) (h : Below n₀ A B) : Kpt P A B := ⟨h.size, fun k hk => h.block k (hP k hk)⟩
theorem Tri.onP {w w' : World} {P : Nat → Prop} {t : Nat} {v : Value} {W M : Nat} {A : List Nd} {r f c : Nat} (h : Tri w t v W M A r f c) (hb : Kpt P w w') (ht : P t) (hv : ∀ k, v.ownBlock = some k → P k) : Tri w' t v W M A r f c := by
  refine ⟨by rw [hb.2 t ht]; exact h.1, ⟨h.2.1.1, ?_⟩, h.2.2⟩
  rcases h.2.1.2 with q | ⟨g, cap, cur, hvv, hg, hh, q⟩
  · exact .inl q
  · exact .inr ⟨g, cap, cur, hvv, hg, by rw [hb.2 g (hv g (by rw [hvv]; rfl))]; exact hh, q⟩
/-- What path$1 has captured. -/
def Cap (w : World) (Bt Bn Bk t n k : Nat) : Prop := w.heap[Bt]? = some (.cells #[.pointer (some ⟨t, 0, none⟩)] 23) ∧ w.heap[Bn]? = some (.cells #[.int .i64 (n : Int)] 3) ∧ w.heap[Bk]? = some (.cells #[.int .u32 (k : Int)] 33)
theorem Cap.onP {w w' : World} {P : Nat → Prop} {Bt Bn Bk t n k : Nat} (h : Cap w Bt Bn Bk t n k) (hb : Kpt P w w') (h1 : P Bt) (h2 : P Bn) (h3 : P Bk) : Cap w' Bt Bn Bk t n k :=
  ⟨by rw [hb.2 _ h1]; exact h.1, by rw [hb.2 _ h2]; exact h.2.1, by rw [hb.2 _ h3]; exact h.2.2⟩
theorem Cap.on {w w' : World} {Bt Bn Bk t n k : Nat} (h : Cap w Bt Bn Bk t n k) (hb : Below w.heap.size w w') : Cap w' Bt Bn Bk t n k := ⟨blk_on h.1 hb, blk_on h.2.1 hb, blk_on h.2.2 hb⟩
set_option maxRecDepth 100000 in
set_option maxHeartbeats 4000000 in
theorem path1_in (m l Bt Bn Bk t : Nat) (P : Nat → Prop) (v : Value) (W M : Nat) (A : List Nd) (r f c n k : Nat) (hW : W ≤ 32) (hn : n ≤ W) (hk : k < 4294967296) (hA : A.length ≤ 4294967200) (bd : Bd ⟨A, f, c⟩) (hr : r ≤ A.length)
    (h1 : P Bt) (h2 : P Bn) (h3 : P Bk) (ht : P t) (hv : ∀ k, v.ownBlock = some k → P k)
    (U : World → Nat → Prop) (J Jx : List (PX W A) → World → Prop) (W0 : World) (hJ : OwnFrom W0.heap.size J)
    (hY : ∀ (m : Nat) pre x W1, J pre W1 → pre.length < (pthX W A n W r k 0).length → W0.heap.size ≤ W1.heap.size → YieldAt Fence.wide m Try.prog l (encP x) W1 fun e W' => RK W0.heap.size U W1 W' ∧
      ((e = .returned (.bool true) ∧ J (pre ++ [x]) W' ∧ Kpt P W1 W') ∨ (e = .returned (.bool false) ∧ Jx (pre ++ [x]) W')))
    (hC : Cap W0 Bt Bn Bk t n k) (hT : Tri W0 t v W M A r f c) (h0 : J [] W0) :
    CallsIn Fence.wide m Try.prog 41 #[.func (.yield l) #[] #[], .pointer (some ⟨Bt, 0, none⟩), .pointer (some ⟨Bn, 0, none⟩), .pointer (some ⟨Bk, 0, none⟩)] W0 fun e W' => (∃ v, e = .returned v) ∧
      ((∃ ys, ys = pthX W A n W r k 0 ∧ J ys W') ∨ (∃ pre, pre <+: pthX W A n W r k 0 ∧ Jx pre W')) := by
  obtain ⟨c0, c1, c2, c3, c4, c5⟩ := blk6 hT.1
  have b0 : W0.cell? ⟨Bt, 0, none⟩ = some (.pointer (some ⟨t, 0, none⟩)) := blk_cell hC.1 rfl
  have HT : Hid (Tri W0 t v W M A r f c) := hT
  have HC : Hid (Cap W0 Bt Bn Bk t n k) := hC
  have HJ : Hid (OwnFrom W0.heap.size J) := hJ
  obtain ⟨D, hD⟩ : ∃ D, D = pthX W A n W r k 0 := ⟨_, rfl⟩
  have HD : Hid (D = [] ++ pthX W A (n - 0) (W - 0) r k 0) := hD
  rw [← hD] at hY ⊢
  clear hT hC hJ hD
  refine callsIn_of_wp Try.func41 rfl trivial ?_ rfl
  simp only [Try.ntmps41, List.size_toArray, List.length_cons, List.length_nil, Nat.reduceAdd, Nat.reduceSub, Array.replicate_succ, Array.replicate_zero, List.push_toArray, List.append_toArray, List.nil_append, List.cons_append]
  gi_wp2_with (fail)
  gi_loopw [5, 6] (fun nv lv wr => ∃ (j rj : Nat) (pre : List (PX W A)), j ≤ n + 1 ∧ (rj ≠ 0 → j ≤ n) ∧ rj ≤ A.length ∧ nv = .int .i64 (rj : Int) ∧ lv = .int .i64 (j : Int) ∧ Hid (D = pre ++ pthX W A (n - j) (W - j) rj k j) ∧ W0.heap.size ≤ wr.heap.size ∧ Hid (Tri wr t v W M A r f c) ∧ Hid (Cap wr Bt Bn Bk t n k) ∧ Hid (J pre wr)) (fun _ lv _ => n + 1 - (intOf lv).toNat)
  case atStart => exact ⟨0, r, [], by omega, fun _ => by omega, hr, rfl, rfl, HD.out, Nat.le_refl _, HT.out, HC.out, h0⟩
  case round =>
    clear c0 c1 c2 c3 c4 c5 b0 h0 HT HC HD
    obtain ⟨j, rj, pre, hj, hjn, hrj, rfl, rfl, HD, hz, HT, HC, HJs⟩ := hrel
    by_cases hr0 : rj = 0
    · subst hr0
      have HE : Hid (D = pre) := by show _ = _; rw [HD.out, pthX_z, List.append_nil]
      gi_wp2
      go_end0
      exact ⟨⟨_, rfl⟩, .inl ⟨pre, HE.out.symm, HJs.out⟩⟩
    · have hjn' := hjn hr0
      have hr0' : ¬ (rj : Int) = 0 := by omega
      have hx : j ≤ W ∧ 1 ≤ rj ∧ rj ≤ A.length := ⟨by omega, by omega, hrj⟩
      have HM : Hid (mkP W A j rj = [⟨(j, rj), hx⟩]) := by show _ = _; unfold mkP; rw [dif_pos hx]
      have hlen : pre.length < D.length := by
        rw [HD.out, List.length_append]
        cases hq : n - j with
        | zero => simp only [pthX]; rw [if_neg hr0, HM.out]; simp
        | succ d => simp only [pthX]; rw [if_neg hr0, HM.out]; simp
      obtain ⟨fn, tmps, assign, body, hy, hR⟩ := hY (m - 1) pre ⟨(j, rj), hx⟩ wr HJs.out hlen hz
      dsimp only [encP] at hy
      gi_wp2_with (fail)
      refine ⟨fun h => (by simp [Fence.wide] at h), hR.mono ?_⟩
      rintro e W3 ⟨_, ⟨rfl, hJ3, hk3⟩ | ⟨rfl, hJx3⟩⟩
      · have HT3 : Hid (Tri W3 t v W M A r f c) := HT.out.onP hk3 ht hv
        have HC3 : Hid (Cap W3 Bt Bn Bk t n k) := HC.out.onP hk3 h1 h2 h3
        have hz3 : W0.heap.size ≤ W3.heap.size := Nat.le_trans hz hk3.1
        have HJ3 : Hid (J (pre ++ [⟨(j, rj), hx⟩]) W3) := hJ3
        have b0 : W3.cell? ⟨Bt, 0, none⟩ = some (.pointer (some ⟨t, 0, none⟩)) := blk_cell HC3.out.1 rfl
        have b1 : W3.cell? ⟨Bn, 0, none⟩ = some (.int .i64 (n : Int)) := blk_cell HC3.out.2.1 rfl
        have b2 : W3.cell? ⟨Bk, 0, none⟩ = some (.int .u32 (k : Int)) := blk_cell HC3.out.2.2 rfl
        clear hy hR hk3 hJ3 HT HC HJs
        by_cases hjn2 : j = n
        · subst hjn2
          have HE : Hid (D = pre ++ [⟨(j, rj), hx⟩]) := by
            show _ = _
            rw [HD.out, Nat.sub_self]; simp only [pthX]; rw [if_neg hr0, HM.out]
          gi_wp2
          refine bodyPost_ret (results_none rfl _ _ _) rfl ?_
          exact ⟨⟨_, rfl⟩, .inl ⟨_, HE.out.symm, HJ3.out⟩⟩
        · have hjn3 : ¬ (j : Int) = (n : Int) := by omega
          obtain ⟨d, hd⟩ : ∃ d, n - j = d + 1 := ⟨n - j - 1, by omega⟩
          have HE : Hid (D = (pre ++ [⟨(j, rj), hx⟩]) ++ pthX W A (n - (j + 1)) (W - (j + 1)) (kidA (gt A rj) (sid k (W - j))) k (j + 1)) := by
            show _ = _
            rw [HD.out, hd, show n - (j + 1) = d by omega]
            simp only [pthX]
            rw [if_neg hr0, HM.out, List.append_assoc, show W - j - 1 = W - (j + 1) by omega]
          have hs : sid k (W - j) = 0 ∨ sid k (W - j) = 1 := sid_lt
          have hnd : ∀ y : Kin W3, Calls Try.prog 32 #[.pointer (some ⟨t, 0, none⟩), .int .i64 (rj : Int)] y.val fun e w' => e = .returned (.agg #[.int .i64 (((gt A rj)).a : Int), .int .i64 (((gt A rj)).b : Int), .bool ((gt A rj)).h, .int .i64 ((gt A rj)).v]) ∧ Below y.val.heap.size y.val w' := fun y => nodeC t v W M A r f c rj y.val (HT3.out.on y.is) (by omega) (by omega) hrj
          have hsd : ∀ y : Kin W3, Calls Try.prog 42 #[.pointer (some ⟨t, 0, none⟩), .int .u32 (k : Int), .int .i64 (j : Int)] y.val fun e w' => e = .returned (.int .i64 (sid k (W - j) : Int)) ∧ w' = y.val := fun y => sideC t W j k y.val (HT3.out.on y.is).wid (by omega) hW hk
          have hkl := kid_le bd rj (sid k (W - j))
          dsimp only at hkl
          obtain ⟨s, hse⟩ : ∃ s, s = sid k (W - j) := ⟨_, rfl⟩
          rw [← hse] at hs hsd HE hkl
          clear hse
          obtain ⟨d0, hd0⟩ : ∃ d0, d0 = gt A rj := ⟨_, rfl⟩
          rw [← hd0] at hnd HE hkl
          clear hd0
          have hkr := fun V => kids_run d0.a d0.b d0.h d0.v V
          have hki := fun V => kid_run d0.a d0.b s hs V
          have hkk : ((if s = 0 then d0.a else d0.b : Nat)) = kidA d0 s := rfl
          simp only [hkk] at hki
          clear hkk
          have g1 := HC3.out.1
          have l1 := blk_lt HC3.out.1
          have l2 := blk_lt HC3.out.2.1
          have l3 := blk_lt HC3.out.2.2
          clear g1
          gi_wp2_with (fail)
          refine wpIn_wide.2 ?_
          have kne : Nonempty (Kin (W3)) := ⟨⟨_, Below.refl _ _⟩⟩
          have kc0 : ∀ y : Kin (W3), y.val.cell? ⟨Bt, 0, none⟩ = some (.pointer (some ⟨t, 0, none⟩)) := fun y => by rw [kin_cell (by first | omega | (simp <;> omega))]; first | assumption | (simp [go_sem]; done) | simp [go_sem, *]
          have kc1 : ∀ y : Kin (W3), y.val.cell? ⟨Bn, 0, none⟩ = some (.int .i64 (n : Int)) := fun y => by rw [kin_cell (by first | omega | (simp <;> omega))]; first | assumption | (simp [go_sem]; done) | simp [go_sem, *]
          have kc2 : ∀ y : Kin (W3), y.val.cell? ⟨Bk, 0, none⟩ = some (.int .u32 (k : Int)) := fun y => by rw [kin_cell (by first | omega | (simp <;> omega))]; first | assumption | (simp [go_sem]; done) | simp [go_sem, *]
          refine wp_region_kin (W3) (Below.refl _ _) (by kernel_rfl) (by kernel_rfl) ?_
          repeat (go_big_quiet_step (first | (go_at_call 32; exact kin_call (hnd _)) | (go_at_call 42; exact kin_same (hsd _))))
          refine wpQuiet_nil ?_
          rintro wq ⟨⟨xq, hxq⟩, hyq⟩
          have hq : Below (W3).heap.size (W3) wq := by rw [hyq]; exact hxq
          clear hyq hxq xq
          clear kne kc0 kc1 kc2
          obtain ⟨hcq, hfq⟩ := bcell hq
          have hzq := hq.size
          try simp at hzq
          have HTq : Hid (Tri wq t v W M A r f c) := HT3.out.on hq
          have HCq : Hid (Cap wq Bt Bn Bk t n k) := HC3.out.on hq
          have HJq : Hid (J (pre ++ [⟨(j, rj), hx⟩]) wq) := HJ.out _ _ _ none HJ3.out (grown_of_below hq) (fun r e => by cases e)
          clear hcq hfq hnd hsd hkr hki b0 b1 b2 HT3 HC3 HJ3 hq
          gi_wp2
          go_roundw
          case rel => exact ⟨j + 1, kidA d0 s, _, by omega, fun _ => by omega, hkl, rfl, by go_num, HE.out, by omega, HTq.out, HCq.out, HJq.out⟩
          case measure => simp [intOf]; omega
      · have HJ3 : Hid (Jx (pre ++ [⟨(j, rj), hx⟩]) W3) := hJx3
        have HE : Hid (pre ++ [⟨(j, rj), hx⟩] <+: D) := by
          show _ <+: _
          rw [HD.out, List.prefix_append_right_inj]
          cases hq : n - j with
          | zero => simp only [pthX]; rw [if_neg hr0, HM.out]; exact List.prefix_refl _
          | succ d => simp only [pthX]; rw [if_neg hr0, HM.out]; exact List.prefix_append _ _
        clear hy hR hJx3
        gi_wp2
        refine bodyPost_ret (results_none rfl _ _ _) rfl ?_
        exact ⟨⟨_, rfl⟩, .inr ⟨_, HE.out, HJ3.out⟩⟩
theorem path_seq (Bt Bn Bk t : Nat) (P : Nat → Prop) (v : Value) (W M : Nat) (A : List Nd) (r f c n k : Nat) (hW : W ≤ 32) (hn : n ≤ W) (hk : k < 4294967296) (hA : A.length ≤ 4294967200) (bd : Bd ⟨A, f, c⟩) (hr : r ≤ A.length)
    (h1 : P Bt) (h2 : P Bn) (h3 : P Bk) (ht : P t) (hv : ∀ k, v.ownBlock = some k → P k) (w : World) (hC : Cap w Bt Bn Bk t n k) (hT : Tri w t v W M A r f c) :
    SeqX Fence.wide Try.prog 41 #[.pointer (some ⟨Bt, 0, none⟩), .pointer (some ⟨Bn, 0, none⟩), .pointer (some ⟨Bk, 0, none⟩)] (encP (W := W) (A := A)) (Kpt P) (fun ys => ys = pthX W A n W r k 0) (fun pre => pre <+: pthX W A n W r k 0) (pthX W A n W r k 0).length w := fun l m U J Jx V hV hl hU hUV hJ hJx hY h0 =>
  path1_in m l Bt Bn Bk t P v W M A r f c n k hW hn hk hA bd hr h1 h2 h3 ht hv U J Jx V hJ hY (hC.on hV) (hT.on hV) h0
/-- A loop over that iterator at the top: handed in slots s1, s2, laid in d1, d2. -/
theorem path_top (s1 s2 d1 d2 : Nat) (U : World → Nat → Prop) {W : Nat} {A : List Nd} {g : Operand} {assign body : Code} {Q : Exit → Act → World → Prop} {a : Act} {w : World} {lb : Array Value} (hU : Stab w.heap.size U) (hUw : ∀ k, U w k → k < w.heap.size) (hg : a.eval g = .func (.func 41) #[] lb)
    {S Sp : List (PX W A) → Prop} {N : Nat} {P : Nat → Prop} (hP : ∀ k, P k → k < w.heap.size) (hseq : SeqX Fence.wide Try.prog 41 lb (encP (W := W) (A := A)) (Kpt P) S Sp N w)
    (I : List (PX W A) → World → Prop) (Ix : Code → List (PX W A) → World → Prop) (hI : OwnFrom w.heap.size I) (hIx : ∀ c, OwnFrom w.heap.size (Ix c)) (h0 : I [] w)
    (hassign : ∀ (l : Nat) (x : PX W A) (V : World) (K : Act → World → Prop),
      (K { tmps := (((a.tmps.setIfInBounds s1 (.int .i64 (x.1.1 : Int))).setIfInBounds s2 (.int .i64 (x.1.2 : Int))).setIfInBounds d1 (.int .i64 (x.1.1 : Int))).setIfInBounds d2 (.int .i64 (x.1.2 : Int)), defers := [] } V) →
      assign.wpIn (Fence.wide.inRound l) 7 Try.prog (Exit.then K (fun _ _ _ => False)) { tmps := (a.tmps.setIfInBounds s1 (.int .i64 (x.1.1 : Int))).setIfInBounds s2 (.int .i64 (x.1.2 : Int)), defers := [] } V)
    (hbody : ∀ (l : Nat) (pre : List (PX W A)) (x : PX W A) (V : World), w.heap.size ≤ l → (∃ r, V.heap[l]? = some (.loop r)) → w.heap.size ≤ V.heap.size → I pre V → pre.length < N →
      body.wpIn (Fence.wide.inRound l) 7 Try.prog (ownPostU w.heap.size U (Kpt P) I Ix (pre ++ [x]) V) { tmps := (((a.tmps.setIfInBounds s1 (.int .i64 (x.1.1 : Int))).setIfInBounds s2 (.int .i64 (x.1.2 : Int))).setIfInBounds d1 (.int .i64 (x.1.1 : Int))).setIfInBounds d2 (.int .i64 (x.1.2 : Int)), defers := [] } V)
    (hdone : ∀ (D : Nat) (xs : List (PX W A)) (V : World), w.heap.size ≤ D → S xs → I xs V → V.heap[D]? = some (.deferred (some [])) → Q .normal { a with defers := { target := .collected D, args := #[] } :: a.defers } V)
    (hstop : ∀ (D : Nat) (c : Code) (pre : List (PX W A)) (V : World), w.heap.size ≤ D → Sp pre → Ix c pre V → V.heap[D]? = some (.deferred (some [])) → c.wpIn Fence.wide 9 Try.prog Q { a with defers := { target := .collected D, args := #[] } :: a.defers } V) :
    (Code.rangeFunc g #[s1, s2] assign body).wpIn Fence.wide 9 Try.prog Q a w := by
  refine range_topX (F := Fence.wide) (n := 9) (nn := 7) U hU hUw rfl rfl hg trivial (enters_of Try.func41 (by kernel_rfl) rfl) hseq kpt_t (kpt_b hP) (Below.refl _ _) (fun _ => rfl) I Ix hI hIx h0
    (fun x a' _ => a' = { tmps := (((a.tmps.setIfInBounds s1 (.int .i64 (x.1.1 : Int))).setIfInBounds s2 (.int .i64 (x.1.2 : Int))).setIfInBounds d1 (.int .i64 (x.1.1 : Int))).setIfInBounds d2 (.int .i64 (x.1.2 : Int)), defers := [] })
    (fun _ _ _ _ _ _ hs _ _ => hs) ?_ ?_ hdone hstop
  · intro l pre x V K hi hz hK
    have hfold : Array.foldl (fun (t : Array Value) (x : Nat × Value) => match x with | (p, v) => t.setIfInBounds p v) a.tmps ((#[s1, s2] : Array Nat).zip (encP x)) = (a.tmps.setIfInBounds s1 (.int .i64 (x.1.1 : Int))).setIfInBounds s2 (.int .i64 (x.1.2 : Int)) := by simp [encP]
    have hgo := hassign l x V K (hK _ _ (RK.refl _) (kpt_r _) hi rfl)
    rw [← hfold] at hgo; exact hgo
  · rintro l pre x a' V hl hr hz hi rfl hN
    exact hbody l pre x V hl hr hz hi hN
theorem pathC (t k : Nat) (n : Int) (w : World) :
    Calls Try.prog 31 #[.pointer (some ⟨t, 0, none⟩), .int .u32 (k : Int), .int .i64 n] w fun e w' => e = .returned (.func (.func 41) #[] #[.pointer (some ⟨w.heap.size, 0, none⟩), .pointer (some ⟨w.heap.size + 1 + 1, 0, none⟩), .pointer (some ⟨w.heap.size + 1, 0, none⟩)]) ∧
      w' = ((w.alloc (.cells #[.pointer (some ⟨t, 0, none⟩)] 23)).alloc (.cells #[.int .u32 (k : Int)] 33)).alloc (.cells #[.int .i64 n] 3) := by
  go_enter Try.func31, Try.ntmps31
  go_wp2
  go_ret
  exact ⟨rfl, rfl⟩
theorem cap_new (w : World) (t n k : Nat) : Cap (((w.alloc (.cells #[.pointer (some ⟨t, 0, none⟩)] 23)).alloc (.cells #[.int .u32 (k : Int)] 33)).alloc (.cells #[.int .i64 (n : Int)] 3)) w.heap.size (w.heap.size + 1 + 1) (w.heap.size + 1) t n k := by
  refine ⟨blk_alloc (blk_alloc (blk_new w _) _) _, ?_, ?_⟩
  · simpa using blk_new ((w.alloc (.cells #[.pointer (some ⟨t, 0, none⟩)] 23)).alloc (.cells #[.int .u32 (k : Int)] 33)) (.cells #[.int .i64 (n : Int)] 3)
  · exact blk_alloc (by simpa using blk_new (w.alloc (.cells #[.pointer (some ⟨t, 0, none⟩)] 23)) (.cells #[.int .u32 (k : Int)] 33)) _
end Go.Proofs.Ytfbkjghipahipaa
