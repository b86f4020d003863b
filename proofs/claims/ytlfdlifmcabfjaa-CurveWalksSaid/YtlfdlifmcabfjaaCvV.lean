/-
  The walk of the next order.
-/
import Derived.Test.YtlfdlifmcabfjaaCvW
namespace Go.Proofs.Ytlfdlifmcabfjaa
open Go.RowKit Go.Shelf
set_option linter.unusedVariables false
set_option linter.unusedSimpArgs false
attribute [local go_sem] Oper.semAt_some run_store_float

theorem walk_seq {n : Nat} (ih : WalkP n) (B : Nat) (P : Nat → Prop) (w : World) (hP : ∀ k, P k → k < w.heap.size) (hPB : P B) (hB : w.heap[B]? = some (.cells #[.int .i64 (n : Int)] 3)) :
    SeqX Fence.wide Try.prog 43 #[.pointer (some ⟨B, 0, none⟩)] (encC (n := n)) (Kpt P) (fun ys => ys = wlk n) (fun pre => pre <+: wlk n) (wlk n).length w := fun l m U J Jx V hV hl hU hUV hJ hJx hY h0 =>
  ih m l B P U J Jx V ⟨hU, hJ, hJx, fun k hk => Nat.lt_of_lt_of_le (hP k hk) hV.size, hUV, hY⟩ hPB (blk_on hB hV) h0
/-- A loop over such an iterator at the top: handed in slot s, laid in slot d. -/
theorem wlk_top (s d : Nat) (U : World → Nat → Prop) {n gf : Nat} {g : Operand} {assign body : Code} {Q : Exit → Act → World → Prop} {a : Act} {w : World} {lb : Array Value} (hU : Stab w.heap.size U) (hUw : ∀ k, U w k → k < w.heap.size) (hg : a.eval g = .func (.func gf) #[] lb) (eg : ∀ args w, (callFunc gf args).run Try.prog w = .ok (.enter gf args) w)
    {S Sp : List (SQ n) → Prop} {N : Nat} {P : Nat → Prop} (hP : ∀ k, P k → k < w.heap.size) (hseq : SeqX Fence.wide Try.prog gf lb (encC (n := n)) (Kpt P) S Sp N w)
    (I : List (SQ n) → World → Prop) (Ix : Code → List (SQ n) → World → Prop) (hI : OwnFrom w.heap.size I) (hIx : ∀ c, OwnFrom w.heap.size (Ix c)) (h0 : I [] w)
    (hassign : ∀ (l : Nat) (x : SQ n) (V : World) (K : Act → World → Prop),
      (K { tmps := (a.tmps.setIfInBounds s (CX x.1.1 x.1.2)).setIfInBounds d (CX x.1.1 x.1.2), defers := [] } V) →
      assign.wpIn (Fence.wide.inRound l) 7 Try.prog (Exit.then K (fun _ _ _ => False)) { tmps := a.tmps.setIfInBounds s (CX x.1.1 x.1.2), defers := [] } V)
    (hbody : ∀ (l : Nat) (pre : List (SQ n)) (x : SQ n) (V : World), w.heap.size ≤ l → (∃ r, V.heap[l]? = some (.loop r)) → w.heap.size ≤ V.heap.size → I pre V → pre.length < N →
      body.wpIn (Fence.wide.inRound l) 7 Try.prog (ownPostU w.heap.size U (Kpt P) I Ix (pre ++ [x]) V) { tmps := (a.tmps.setIfInBounds s (CX x.1.1 x.1.2)).setIfInBounds d (CX x.1.1 x.1.2), defers := [] } V)
    (hdone : ∀ (D : Nat) (xs : List (SQ n)) (V : World), w.heap.size ≤ D → S xs → I xs V → V.heap[D]? = some (.deferred (some [])) → Q .normal { a with defers := { target := .collected D, args := #[] } :: a.defers } V)
    (hstop : ∀ (D : Nat) (c : Code) (pre : List (SQ n)) (V : World), w.heap.size ≤ D → Sp pre → Ix c pre V → V.heap[D]? = some (.deferred (some [])) → c.wpIn Fence.wide 9 Try.prog Q { a with defers := { target := .collected D, args := #[] } :: a.defers } V) :
    (Code.rangeFunc g #[s] assign body).wpIn Fence.wide 9 Try.prog Q a w := by
  refine range_topX (F := Fence.wide) (n := 9) (nn := 7) U hU hUw rfl rfl hg trivial eg hseq kpt_t (kpt_b hP) (Below.refl _ _) (fun _ => rfl) I Ix hI hIx h0
    (fun x a' _ => a' = { tmps := (a.tmps.setIfInBounds s (CX x.1.1 x.1.2)).setIfInBounds d (CX x.1.1 x.1.2), defers := [] })
    (fun _ _ _ _ _ _ hs _ _ => hs) ?_ ?_ hdone hstop
  · intro l pre x V K hi hz hK
    have hfold : Array.foldl (fun (t : Array Value) (x : Nat × Value) => match x with | (p, v) => t.setIfInBounds p v) a.tmps ((#[s] : Array Nat).zip (encC x)) = a.tmps.setIfInBounds s (CX x.1.1 x.1.2) := by simp [encC]
    have hgo := hassign l x V K (hK _ _ (RK.refl _) (kpt_r _) hi rfl)
    rw [← hfold] at hgo; exact hgo
  · rintro l pre x a' V hl hr hz hi rfl hN
    exact hbody l pre x V hl hr hz hi hN
def WFr (f : Nat → Value) (l B Y : Nat) (k : Nat) : Array Value := #[.func (.yield l) #[] #[], .pointer (some ⟨B, 0, none⟩), .pointer (some ⟨Y, 0, none⟩), .pointer (some ⟨Y + 1, 0, none⟩), f 4, f 5, f 6, f 7, f 8, f 9, f 10, f 11, f 12, .int .i64 (k : Int), f 14, f 15, f 16, f 17, f 18, f 19, f 20, f 21, f 22, f 23, f 24, f 25, f 26, f 27]
/-- What stands between the parts. -/
structure Ws (n l : Nat) (P : Nat → Prop) (U : World → Nat → Prop) (J : List (SQ (n + 1)) → World → Prop) (W0 : World) (k : Nat) (ds : List Nat) (V : World) : Prop where
  j : J (segs n (wlk n) k) V
  kp : Kpt P W0 V
  ul : ∀ q, U V q → q < V.heap.size
  y : V.heap[W0.heap.size]? = some (.cells #[.func (.yield l) #[] #[]] 73)
  h : V.heap[W0.heap.size + 1]? = some (.cells #[.float .f64 (FL (2 ^ n))] 33)
  nu : ∀ q, q = W0.heap.size ∨ q = W0.heap.size + 1 → ¬ U V q
  mks : Mks ds V
  dl : ∀ D ∈ ds, W0.heap.size ≤ D
/-- What stands within a part: V2 is the world where the loop began, O our own blocks, ds the marks. -/
structure Wi (n k : Nat) (P O : Nat → Prop) (ds : List Nat) (U : World → Nat → Prop) (J : List (SQ (n + 1)) → World → Prop) (V2 : World) (pre : List (SQ n)) (V : World) : Prop where
  j : J (segs n (wlk n) k ++ pre.map (seg n k)) V
  kp : Kpt (fun q => P q ∨ O q ∨ q ∈ ds) V2 V
  ul : ∀ q, U V q → q < V.heap.size
  nu : ∀ q, O q → ¬ U V q
theorem mks_lt {ds : List Nat} {V : World} (h : Mks ds V) : ∀ D ∈ ds, D < V.heap.size := fun D hD => (Array.getElem?_eq_some_iff.1 (h.2 D hD)).1
theorem mks_kp {ds : List Nat} {V V' : World} (h : Mks ds V) (hk : ∀ D ∈ ds, V'.heap[D]? = V.heap[D]?) : Mks ds V' := ⟨h.1, fun D hD => by rw [hk D hD]; exact h.2 D hD⟩
set_option maxRecDepth 100000 in
set_option maxHeartbeats 8000000 in
theorem walk_succ (n : Nat) (hn : n + 1 ≤ 16) (ih : WalkP n) : WalkP (n + 1) := by
  intro m l B P U J Jx W0 tc hPB hB h0
  have hBl := blk_lt hB
  have b0 := blk_cell hB (j := 0) rfl
  have hne : ¬ B = W0.heap.size := by omega
  have HB : Hid (W0.heap[B]? = some (.cells #[.int .i64 ((n + 1 : Nat) : Int)] 3)) := hB
  have hi : ((n + 1 : Nat) : Int) - 1 = (n : Int) := by omega
  have hn1 : ¬ ((n + 1 : Nat) : Int) = 0 := by omega
  have hn2 : (0 : Int) ≤ ((n + 1 : Nat) : Int) := by omega
  have hn3 : ((n + 1 : Nat) : Int) ≤ 16 := by omega
  have bA : Below W0.heap.size W0 ((W0.alloc (.cells #[.func (.yield l) #[] #[]] 73)).alloc (.cells #[.float .f64 (FL (2 ^ n))] 33)) := ((Below.refl _ _).alloc (Nat.le_refl _) _).alloc (by simp) _
  have HS0 : Hid (Ws n l P U J W0 0 [] ((W0.alloc (.cells #[.func (.yield l) #[] #[]] 73)).alloc (.cells #[.float .f64 (FL (2 ^ n))] 33))) :=
    ⟨tc.grow h0 bA, kpt_on tc.plt (Nat.le_refl _) bA, rk_lt (RK.below (B := W0.heap.size) tc.stab (Nat.le_refl _) bA) tc.ul, blk_alloc (blk_new W0 _) _, by simpa using blk_new (W0.alloc (.cells #[.func (.yield l) #[] #[]] 73)) (.cells #[.float .f64 (FL (2 ^ n))] 33),
      fun q hq => not_u tc.stab (Nat.le_refl _) bA tc.ul (by omega), ⟨List.Pairwise.nil, fun D h => by cases h⟩, fun D h => by cases h⟩
  clear bA hB h0
  generalize hN1 : ((n + 1 : Nat) : Int) = N1 at *
  clear hN1
  refine callsIn_wide.2 (callsIn_wide.1 (callsIn_of_wp_marks (n := 9) Try.func43 rfl trivial ?_ rfl))
  simp only [Try.ntmps43, List.size_toArray, List.length_cons, List.length_nil, Nat.reduceAdd, Nat.reduceSub, Array.replicate_succ, Array.replicate_zero, List.push_toArray, List.append_toArray, List.nil_append, List.cons_append]
  refine wpIn_wide.2 ?_
  go_wp2_with (fail)
  refine (side_any n _ (by omega)).mono ?_
  rintro e w' ⟨rfl, hw⟩
  obtain rfl := hw.symm
  clear hw
  go_upto_region 5 with (fail)
  refine wp_loop (fun a V => ∃ (k : Nat) (ds : List Nat), k ≤ 4 ∧ a = { tmps := WFr (fun i => a.tmps.getD i undef) l B W0.heap.size k, defers := ds.map dmk } ∧ Hid (Ws n l P U J W0 k ds V)) (fun a _ => 4 - (intOf (a.tmps.getD 13 undef)).toNat) ?start ?round
  case start => exact ⟨0, [], by omega, rfl, HS0.out⟩
  case round =>
    rintro a V ⟨k, ds, hk, ha, HW⟩
    generalize (fun i => a.tmps.getD i undef) = f at ha
    subst ha
    unfold WFr
    clear HS0 b0
    generalize hdm : ds.map dmk = dm
    have b0 : V.cell? ⟨B, 0, none⟩ = some (.int .i64 N1) := blk_cell (by rw [HW.out.kp.2 B hPB]; exact HB.out) rfl
    have hzV : W0.heap.size + 1 < V.heap.size := blk_lt HW.out.h
    have hBV : ¬ B = V.heap.size := by omega
    have hBV2 : B < V.heap.size := by omega
    by_cases hk4 : k < 4
    · have hk4i : (k : Int) < 4 := by omega
      go_wp2_with (fail)
      refine (walkC _ _).mono ?_
      rintro e w' ⟨rfl, hw⟩
      have hz2 : w'.heap.size = V.heap.size + 1 + 1 := by rw [hw]; simp
      have hPB2 : w'.heap[V.heap.size]? = some (.cells #[.int .i64 (k : Int)] 3) := by rw [hw]; exact blk_alloc (blk_new V _) _
      have hBB2 : w'.heap[V.heap.size + 1]? = some (.cells #[.int .i64 (n : Int)] 3) := by rw [hw]; simpa using blk_new (V.alloc (.cells #[.int .i64 (k : Int)] 3)) (.cells #[.int .i64 (n : Int)] 3)
      have hb2 : Below V.heap.size V w' := by rw [hw]; exact ((Below.refl _ _).alloc (Nat.le_refl _) _).alloc (by simp) _
      clear hw b0 hBV hBV2
      have HH2 := blk_on HW.out.h hb2
      have HY2 := blk_on HW.out.y hb2
      have HM2 := HW.out.mks.on hb2
      generalize w' = V2 at *
      simp only [World.size_alloc]
      go_wp2_with (fail)
      have hU2 : Stab V2.heap.size U := fun A C row q h => tc.stab A C row q (by omega)
      have hul2 : ∀ q, U V2 q → q < V2.heap.size := rk_lt (RK.below (B := W0.heap.size) tc.stab (by omega) hb2) HW.out.ul
      obtain ⟨O, hO⟩ : ∃ O : Nat → Prop, O = fun q => q = W0.heap.size ∨ q = W0.heap.size + 1 ∨ q = V.heap.size ∨ q = V.heap.size + 1 := ⟨_, rfl⟩
      have hO1 : ∀ q, O q → W0.heap.size ≤ q ∧ q < V2.heap.size := fun q hq => by rw [hO] at hq; omega
      have hOY : O W0.heap.size := by rw [hO]; exact .inl rfl
      have hOH : O (W0.heap.size + 1) := by rw [hO]; exact .inr (.inl rfl)
      have hOP : O V.heap.size := by rw [hO]; exact .inr (.inr (.inl rfl))
      have hOB : O (V.heap.size + 1) := by rw [hO]; exact .inr (.inr (.inr rfl))
      have hdl2 : ∀ D ∈ ds, D < V2.heap.size := mks_lt HM2
      have hnu2 : ∀ q, O q → ¬ U V2 q := fun q hq e => by
        have hV := tc.stab V V2 none q (by omega) (grown_of_below hb2) (fun r e => by cases e) e
        have h1 := HW.out.ul q hV
        rw [hO] at hq
        exact HW.out.nu q (by omega) hV
      have hI0 : Wi n k P O ds U J V2 [] V2 := ⟨by rw [List.map_nil, List.append_nil]; exact tc.grow HW.out.j hb2, kpt_r _, hul2, hnu2⟩
      have hkp2 : Kpt P W0 V2 := kpt_t HW.out.kp (kpt_on tc.plt (by omega) hb2)
      have hP2 : ∀ q, (P q ∨ O q ∨ q ∈ ds) → q < V2.heap.size := fun q hq => by
        rcases hq with hq | hq | hq
        · have := tc.plt q hq; omega
        · exact (hO1 q hq).2
        · exact hdl2 q hq
      clear hO
      refine (wpIn_wide (n := 9)).1 ?_
      refine wlk_top 19 5 U hU2 hul2 rfl (enters_of Try.func43 (by kernel_rfl) rfl) hP2 (walk_seq ih (V.heap.size + 1) _ V2 hP2 (.inr (.inl hOB)) hBB2)
        (fun pre V3 => Wi n k P O ds U J V2 pre V3) (fun cc pre V3 => cc = .ret ∧ Jx (segs n (wlk n) k ++ pre.map (seg n k)) V3 ∧ Mks ds V3) ?hI ?hIx ?h0 ?assign ?body ?done ?stop
      case hI =>
        rintro s X Y row h hg hr
        have hzX := h.kp.1
        exact ⟨tc.own _ _ _ row h.j hg (fun r e => ⟨by have := (hr r e).1; omega, (hr r e).2⟩), kpt_t h.kp ⟨hg.size, fun q hq => hg.block q (by have := hP2 q hq; omega) (fun e => by have := (hr q e.symm).1; have := hP2 q hq; omega)⟩,
          fun q e => by have := h.ul q (tc.stab X Y row q (by omega) hg (fun r e => (hr r e).2) e); have := hg.size; omega, fun q hq e => h.nu q hq (tc.stab X Y row q (by omega) hg (fun r e => (hr r e).2) e)⟩
      case hIx =>
        rintro cc s X Y row ⟨rfl, h, hm⟩ hg hr
        exact ⟨rfl, tc.ownx _ _ _ row h hg (fun r e => ⟨by have := (hr r e).1; omega, (hr r e).2⟩), mks_kp hm (fun D hD => hg.block D (mks_lt hm D hD) (fun e => by have := (hr D e.symm).1; have := hdl2 D hD; omega))⟩
      case h0 => exact hI0
      case assign =>
        intro l x V K hK
        simp only [List.setIfInBounds_toArray, List.set_cons_succ, List.set_cons_zero] at hK ⊢
        gi_wp2
        exact hK
      case body =>
        rintro l2 pre x V3 hl hr2 hz hI hN
        simp only [List.setIfInBounds_toArray, List.set_cons_succ, List.set_cons_zero]
        have HY3 : V3.heap[W0.heap.size]? = some (.cells #[.func (.yield l) #[] #[]] 73) := by rw [hI.kp.2 _ (.inr (.inl hOY))]; exact HY2
        have HH3 : V3.heap[W0.heap.size + 1]? = some (.cells #[.float .f64 (FL (2 ^ n))] 33) := by rw [hI.kp.2 _ (.inr (.inl hOH))]; exact HH2
        have HP3 : V3.heap[V.heap.size]? = some (.cells #[.int .i64 (k : Int)] 3) := by rw [hI.kp.2 _ (.inr (.inl hOP))]; exact hPB2
        have HM3 : Mks ds V3 := mks_kp HM2 (fun D hD => hI.kp.2 D (.inr (.inr hD)))
        have hx := x.2
        have hdk : ((k % 4 : Nat) : Int) = (k : Int) := by omega
        have hL : ∀ y : Kin V3, Calls Try.prog 26 #[CX x.1.1 x.1.2, .int .i64 (k : Int), .float .f64 (FL (2 ^ n))] y.val fun e w' => e = .returned (CX (seg n k x).1.1 (seg n k x).1.2) ∧ w' = y.val := fun y => by
          have := lay_any x.1.1 x.1.2 (k : Int) (2 ^ n) y.val (by omega) (two_pos n) (pow_le16 (by omega)) ⟨hx.1, hx.2.1⟩ ⟨hx.2.2.1, hx.2.2.2⟩
          have hsv : (seg n k x).1 = layP (2 ^ n) (k : Int) x.1 := by show layP _ ((k % 4 : Nat) : Int) _ = _; rw [hdk]
          rw [hsv]
          exact this
        have hAI : Hid (Wi n k P O ds U J V2 pre V3) := hI
        have hpl : (segs n (wlk n) k ++ pre.map (seg n k)).length < (wlk (n + 1)).length := by
          rw [List.length_append, List.length_map, segs_len, wlk_len, wlk_len, Nat.pow_succ]
          rw [wlk_len] at hN
          generalize 4 ^ n = Z at *
          rcases (by omega : k = 0 ∨ k = 1 ∨ k = 2 ∨ k = 3) with rfl | rfl | rfl | rfl <;> omega
        have hEq : segs n (wlk n) k ++ (pre ++ [x]).map (seg n k) = segs n (wlk n) k ++ pre.map (seg n k) ++ [seg n k x] := by simp
        have hmk : ∀ V', RK W0.heap.size U V3 V' → Mks ds V' := fun V' q => ⟨HM3.1, fun D hD => q.1.same D _ (HW.out.dl D hD) (HM3.2 D hD) rfl⟩
        have hGo : ∀ a V', RK W0.heap.size U V3 V' → Kpt P V3 V' → J (segs n (wlk n) k ++ pre.map (seg n k) ++ [seg n k x]) V' → ownPostU V2.heap.size U (Kpt fun q => P q ∨ O q ∨ q ∈ ds) (fun pre V3 => Wi n k P O ds U J V2 pre V3) (fun cc pre V3 => cc = .ret ∧ Jx (segs n (wlk n) k ++ pre.map (seg n k)) V3 ∧ Mks ds V3) (pre ++ [x]) V3 .normal a V' := fun a V' q1 q2 q3 => by
          have kk : Kpt (fun q => P q ∨ O q ∨ q ∈ ds) V3 V' := ⟨q2.1, fun q hq => by
            rcases hq with hq | hq | hq
            · exact q2.2 q hq
            · exact q1.2.1 q (hO1 q hq).1 (by have := (hO1 q hq).2; omega) (hAI.out.nu q hq)
            · rw [(hmk V' q1).2 q hq, HM3.2 q hq]⟩
          refine ⟨q1.mono (by omega), kk, by rw [hEq]; exact q3, kpt_t hAI.out.kp kk, rk_lt q1 hAI.out.ul, fun q hq e => ?_⟩
          rcases q1.2.2 q e with a | a
          · exact hAI.out.nu q hq a
          · have := (hO1 q hq).2; omega
        have hRo : ∀ a V', RK W0.heap.size U V3 V' → Jx (segs n (wlk n) k ++ pre.map (seg n k) ++ [seg n k x]) V' → ownPostU V2.heap.size U (Kpt fun q => P q ∨ O q ∨ q ∈ ds) (fun pre V3 => Wi n k P O ds U J V2 pre V3) (fun cc pre V3 => cc = .ret ∧ Jx (segs n (wlk n) k ++ pre.map (seg n k)) V3 ∧ Mks ds V3) (pre ++ [x]) V3 .ret a V' := fun a V' q1 q3 =>
          ⟨q1.mono (by omega), rfl, by rw [hEq]; exact q3, hmk V' q1⟩
        generalize hQ2 : ownPostU _ _ _ _ _ _ _ = Q2 at hGo hRo ⊢
        have HJ3 : Hid (J (segs n (wlk n) k ++ pre.map (seg n k)) V3) := hI.j
        generalize segs n (wlk n) k ++ pre.map (seg n k) = es at *
        generalize seg n k x = sx at *
        clear hQ2 hI hr2 hl hN hEq hmk HM3 hI0
        obtain ⟨⟨x1, x2⟩, hx'⟩ := x
        dsimp only at hL ⊢
        have l1 := blk_lt HY3
        have l2' := blk_lt HH3
        have l3 := blk_lt HP3
        have kne : Nonempty (Kin V3) := ⟨⟨_, Below.refl _ _⟩⟩
        have kc0 : ∀ y : Kin V3, y.val.cell? ⟨W0.heap.size, 0, none⟩ = some (.func (.yield l) #[] #[]) := fun y => by rw [kin_cell l1]; exact blk_cell HY3 rfl
        have kc1 : ∀ y : Kin V3, y.val.cell? ⟨W0.heap.size + 1, 0, none⟩ = some (.float .f64 (FL (2 ^ n))) := fun y => by rw [kin_cell l2']; exact blk_cell HH3 rfl
        have kc2 : ∀ y : Kin V3, y.val.cell? ⟨V.heap.size, 0, none⟩ = some (.int .i64 (k : Int)) := fun y => by rw [kin_cell l3]; exact blk_cell HP3 rfl
        clear HY3 HH3 HP3 HY2 HH2 hPB2 hBB2 hx
        gi_upto_region 9 with (fail)
        refine wpIn_region_pre (m := 5) (tn := 2) V3 (Below.refl _ _) (by kernel_rfl) (by kernel_rfl) rfl (by kernel_rfl) (by kernel_rfl) (by kernel_rfl) (by kernel_rfl) ?_
        simp only [List.take_succ_cons, List.take_zero]
        repeat (go_big_quiet_step (first | (go_at_call 26; exact kin_same (hL _))))
        refine wpQuiet_nil ?_
        rintro wq ⟨⟨xq, hxq⟩, hyq⟩
        have hBd : Below V3.heap.size V3 wq := by rw [hyq]; exact hxq
        clear hyq hxq xq kne kc0 kc1 kc2 hL
        have hz3 : W0.heap.size ≤ V3.heap.size := by omega
        obtain ⟨fn, tmps, assign, body, hy, hR⟩ := tc.yld 6 es sx wq (tc.grow HJ3.out hBd) hpl (by have := hBd.size; omega)
        dsimp only [encC] at hy
        have hR2 : RoundIn Fence.wide 6 Try.prog l fn tmps assign body wq (fun e V' => ∃ b, e = .returned (.bool b) ∧ Hid (RK W0.heap.size U V3 V' ∧ ((b = true ∧ J (es ++ [sx]) V' ∧ Kpt P V3 V') ∨ (b = false ∧ Jx (es ++ [sx]) V')))) := hR.mono (by
          rintro e V' ⟨hrk, ⟨rfl, a1, a2⟩ | ⟨rfl, a1⟩⟩
          · exact ⟨true, rfl, (RK.below tc.stab (by omega) hBd).trans hrk, .inl ⟨rfl, a1, kpt_t (kpt_on tc.plt (by omega) hBd) a2⟩⟩
          · exact ⟨false, rfl, (RK.below tc.stab (by omega) hBd).trans hrk, .inr ⟨rfl, a1⟩⟩)
        clear hR hBd
        refine any_one (i := 5) (by kernel_rfl) (op_in rfl rfl (fun K' hK' => ?_))
        gi_wp2_with (fail)
        refine RoundIn.mono (F := Fence.wide.inRound l2) hR2 ?_
        rintro e V4 ⟨b, rfl, h4⟩
        clear hR2 hy
        refine hK' _ _ ?_
        refine any_one (i := 6) (by kernel_rfl) (op_in rfl rfl (fun K2 hK2 => ?_))
        gi_wp2_with (fail)
        refine ⟨by kernel_rfl, ?_⟩
        obtain ⟨hrk, ⟨rfl, a1, a2⟩ | ⟨rfl, a1⟩⟩ := h4.out
        · have hG := fun a => hGo a V4 hrk a2 a1
          clear hGo hRo a1 a2 hrk h4
          gi_wp2
          exact hG _
        · have hG := fun a => hRo a V4 hrk a1
          clear hGo hRo a1 hrk h4
          gi_wp2
          exact hG _
      case done =>
        rintro D xs V5 hD rfl hI hK
        have HF : Hid (Ws n l P U J W0 (k + 1) (D :: ds) V5) := by
          have hM5 : Mks ds V5 := mks_kp HM2 (fun E hE => hI.kp.2 E (.inr (.inr hE)))
          refine ⟨hI.j, kpt_t hkp2 ⟨hI.kp.1, fun q hq => hI.kp.2 q (.inl hq)⟩, hI.ul, by rw [hI.kp.2 _ (.inr (.inl hOY))]; exact HY2, by rw [hI.kp.2 _ (.inr (.inl hOH))]; exact HH2, fun q hq => hI.nu q (by rcases hq with rfl | rfl <;> assumption), ⟨List.pairwise_cons.2 ⟨fun E hE => by have := hdl2 E hE; omega, hM5.1⟩, fun E hE => ?_⟩, fun E hE => ?_⟩
          · rcases List.mem_cons.1 hE with rfl | hE
            · exact hK
            · exact hM5.2 E hE
          · rcases List.mem_cons.1 hE with rfl | hE
            · omega
            · exact HW.out.dl E hE
        have Hdm : Hid (ds.map dmk = dm) := hdm
        clear hI hK hdm
        go_wp2
        exact ⟨⟨k + 1, D :: ds, by omega, by rw [← Hdm.out]; rfl, HF.out⟩, by simp [intOf]; omega⟩
      case stop =>
        rintro D cc pre V5 hD hpre ⟨rfl, h, hM5⟩ hK
        refine wpIn_wide.2 ?_
        go_wp2
        subst hdm
        have hMk : Mks (D :: ds) V5 := ⟨List.pairwise_cons.2 ⟨fun E hE => by have := hdl2 E hE; omega, hM5.1⟩, fun E hE => by
          rcases List.mem_cons.1 hE with rfl | hE
          · exact hK
          · exact hM5.2 E hE⟩
        refine leaves_marks (fun V => Jx (segs n (wlk n) k ++ pre.map (seg n k)) V) (fun D => W0.heap.size ≤ D) (fun V D hD h1 h2 => tc.ownx.putObj _ h2 hD h1 rfl) (fun V hV => ?_) (D :: ds) V5 hMk (fun E hE => ?_) h
        · refine ⟨_, results_none rfl _ _ _, ⟨_, rfl⟩, .inr ⟨_, ?_, hV⟩⟩
          have hp := hpre.map (seg n k)
          have : segs n (wlk n) k ++ pre.map (seg n k) <+: segs n (wlk n) (k + 1) := by
            show _ <+: segs n (wlk n) k ++ _
            exact (List.prefix_append_right_inj _).2 hp
          have mono : ∀ i, segs n (wlk n) (k + 1) <+: segs n (wlk n) (k + 1 + i) := fun i => by
            induction i with
            | zero => exact List.prefix_refl _
            | succ i ih => exact ih.trans (List.prefix_append _ _)
          have h4 := mono (3 - k)
          rw [show k + 1 + (3 - k) = 4 by omega] at h4
          exact this.trans h4
        · rcases List.mem_cons.1 hE with rfl | hE
          · omega
          · exact HW.out.dl E hE
    · obtain rfl : k = 4 := by omega
      clear hzV hBV hBV2
      go_wp2_with (fail)
      subst hdm
      refine leaves_marks (fun V => J (wlk (n + 1)) V) (fun D => W0.heap.size ≤ D) (fun V D hD h1 h2 => tc.own.putObj _ h2 hD h1 rfl) (fun V hV => ?_) ds V HW.out.mks HW.out.dl HW.out.j
      exact ⟨_, results_none rfl _ _ _, ⟨_, rfl⟩, .inl ⟨_, rfl, hV⟩⟩
theorem walk_all : ∀ n, n ≤ 16 → WalkP n
  | 0, _ => walk_zero
  | n + 1, h => walk_succ n h (walk_all n (by omega))
end Go.Proofs.Ytlfdlifmcabfjaa
