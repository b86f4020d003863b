/-
  The walk of any order, as the law goes through it: the law itself.
-/
import Derived.Test.YtlfdlifmcabfjaaCvY
import Derived.Test.YtlfdlifmcabfjaaCvFr
import Derived.Laws.EntriesVeiled
namespace Go.Proofs.Ytlfdlifmcabfjaa
open Go.RowKit Go.Shelf
set_option linter.unusedVariables false
set_option linter.unusedSimpArgs false
attribute [local go_sem] Oper.semAt_some run_store_float
set_option maxRecDepth 100000 in
set_option maxHeartbeats 8000000 in
theorem walks_core (n gf : Nat) (hn : n ≤ 16) (D : List (SQ n)) (o ea : Int) (w : World)
    (WK : ∀ W, Calls Try.prog 17 #[.int .i64 o] W fun e w' => ∃ lb P, e = .returned (.func (.func gf) #[] lb) ∧ Below W.heap.size W w' ∧ (∀ k, P k → W.heap.size ≤ k ∧ k < w'.heap.size) ∧ ItC n gf lb P D w')
    (hea : I64 ea)
    (AT : ∀ j : Nat, j ≤ 3000 → ∃ (x y er : Int), (∀ W, Calls Try.prog 10 #[.int .i64 o, .int .i64 (j : Int)] W fun e w' => e = .returned (.tuple #[.agg #[.int .i64 x, .int .i64 y], .int .i64 er]) ∧ Below W.heap.size W w') ∧ (∀ h : j < D.length, (D[j]'h).1 = (x, y) ∧ er = 0) ∧ (j = D.length → ¬ er = 0))
    (hD0 : ∀ x, D.head? = some x → x.1 = (0, 0)) :
    Calls Try.prog 6 #[.int .i64 o, .int .i64 ea] w fun e w' => e = .returned (.bool true) ∧ Below w.heap.size w w' := by
  obtain ⟨ev, hev⟩ : ∃ ev : Nat, (1 ≤ ev ∧ ev ≤ 3000) ∧ ((0 ≤ ea → 1 + ea % 3000 = (ev : Int)) ∧ (ea < 0 → 1 + (-(ea + 1)) % 3000 = (ev : Int))) := by
    by_cases h : 0 ≤ ea
    · exact ⟨(1 + ea % 3000).toNat, by omega, fun _ => by omega, fun h' => by omega⟩
    · exact ⟨(1 + (-(ea + 1)) % 3000).toNat, by omega, fun h' => by omega, fun _ => by omega⟩
  obtain ⟨⟨hev1, hev2⟩, hev3, hev4⟩ := hev
  have hnf := eq_nilF
  have WKi := WK (((w.alloc (.cells #[.int .i64 o] 3)).alloc (.cells #[.int .i64 ea] 3)).alloc (.cells #[.bool false] 4))
  refine callsIn_wide.1 (callsIn_of_wp_marks (n := 9) Try.func6 rfl trivial ?_ rfl)
  simp only [Try.ntmps6, List.size_toArray, List.length_cons, List.length_nil, Nat.reduceAdd, Nat.reduceSub, Array.replicate_succ, Array.replicate_zero, List.push_toArray, List.append_toArray, List.nil_append, List.cons_append]
  refine wpIn_wide.2 ?_
  go_wp2_with (fail)
  refine WKi.mono ?_
  rintro e W1 ⟨lb, P, rfl, hb1, hP1, hIt⟩
  have hz1 := hb1.size
  simp only [World.size_alloc] at hz1
  have k0 : W1.heap[w.heap.size]? = some (.cells #[.int .i64 o] 3) := blk_on (blk_alloc (blk_alloc (blk_new w _) _) _) hb1
  have k1 : W1.heap[w.heap.size + 1]? = some (.cells #[.int .i64 ea] 3) := blk_on (blk_alloc (by simpa using blk_new (w.alloc (.cells #[.int .i64 o] 3)) (.cells #[.int .i64 ea] 3)) _) hb1
  have k2 : W1.heap[w.heap.size + 1 + 1]? = some (.cells #[.bool false] 4) := blk_on (by simpa using blk_new ((w.alloc (.cells #[.int .i64 o] 3)).alloc (.cells #[.int .i64 ea] 3)) (.cells #[.bool false] 4)) hb1
  have hbw : Below w.heap.size w W1 := ((((Below.refl _ _).alloc (Nat.le_refl _) _).alloc (by simp) _).alloc (by simp; omega) _).trans (hb1.mono (by simp; omega))
  have hP : ∀ k, P k → w.heap.size + 1 + 1 + 1 ≤ k ∧ k < W1.heap.size := fun k hk => by have := hP1 k hk; simpa using this
  clear hb1 hP1 WKi WK
  have c1 := blk_cell k1 (j := 0) rfl
  have f1 := blk_free k1 0
  have hn1 : ¬ w.heap.size + 1 = W1.heap.size := by omega
  have HC : Hid (Cs w W1 P o (ev : Int) (.func (.func gf) #[] lb) ((W1.setCell ⟨w.heap.size + 1, 0, none⟩ (.int .i64 (ev : Int))).alloc (.cells #[.func (.func gf) #[] lb] 42))) :=
    cs_new (by simp) (blk_far k0 (by omega) _) (by simpa using blk_set k1 (j := 0) (.int .i64 (ev : Int))) (blk_far k2 (by omega) _) (hbw.setCell (p := ⟨w.heap.size + 1, 0, none⟩) (by show w.heap.size ≤ w.heap.size + 1; omega) _) (kpt_set _ _ _ _ (fun e => by have := (hP _ e).1; omega)) (fun k hk => (hP k hk).2)
  have HC2 : ∀ u, Hid (Cs w W1 P o (ev : Int) (.func (.func gf) #[] lb) (((W1.setCell ⟨w.heap.size + 1, 0, none⟩ u).setCell ⟨w.heap.size + 1, 0, none⟩ (.int .i64 (ev : Int))).alloc (.cells #[.func (.func gf) #[] lb] 42))) := fun u =>
    cs_new (by simp) (blk_far (blk_far k0 (by omega) _) (by omega) _) (by simpa using blk_set (blk_set k1 (j := 0) u) (j := 0) (.int .i64 (ev : Int))) (blk_far (blk_far k2 (by omega) _) (by omega) _) ((hbw.setCell (p := ⟨w.heap.size + 1, 0, none⟩) (by show w.heap.size ≤ w.heap.size + 1; omega) _).setCell (p := ⟨w.heap.size + 1, 0, none⟩) (by show w.heap.size ≤ w.heap.size + 1; omega) _) (kpt_t (kpt_set _ _ _ _ (fun e => by have := (hP _ e).1; omega)) (kpt_set _ _ _ _ (fun e => by have := (hP _ e).1; omega))) (fun k hk => (hP k hk).2)
  have hPl : ∀ k, P k → k < W1.heap.size := fun k hk => (hP k hk).2
  have hz3 : w.heap.size + 1 + 1 < W1.heap.size := by omega
  have hz4 : w.heap.size + 1 < W1.heap.size := by omega
  obtain ⟨hea1, hea2⟩ := hea
  by_cases hs : ea < 0
  · obtain ⟨t, ht⟩ : ∃ t, (ea + 1).tmod 3000 = t := ⟨_, rfl⟩
    have hw : wrap64 (1 + -t) = (ev : Int) := by
      have h1 := hev4 hs
      have h2 : (-(ea + 1)).tmod 3000 = -t := by rw [Int.neg_tmod, ht]
      rw [Int.tmod_eq_emod_of_nonneg (by omega)] at h2
      rw [← h1, ← h2]
      unfold wrap64; omega
    clear hev3 hev4 k0 k1 k2 hbw HC
    go_upto_region 8 with (fail)
    have HCx := HC2 (.int .i64 (-(ea + 1)))
    clear HC2 c1 f1 hn1 hw ht hnf
    generalize World.alloc _ _ = V0 at HCx ⊢
    refine wp_loop (fun a V => ∃ (k : Nat) (ds : List Nat), k ≤ 2 ∧ a = { tmps := CFr (fun i => a.tmps.getD i undef) o ea w.heap.size W1.heap.size k, defers := ds.map dmk } ∧ Hid (Cs w W1 P o (ev : Int) (.func (.func gf) #[] lb) V ∧ Mks ds V ∧ (∀ D ∈ ds, w.heap.size ≤ D))) (fun a _ => 2 - (intOf (a.tmps.getD 6 undef)).toNat) ?start ?round
    case start => exact ⟨0, [], by omega, rfl, HCx.out, ⟨List.Pairwise.nil, fun D h => by cases h⟩, fun D h => by cases h⟩
    case round =>
      rintro a V ⟨k, ds, hk, ha, HW⟩
      generalize (fun i => a.tmps.getD i undef) = f at ha
      subst ha
      unfold CFr
      clear HCx
      generalize hdm : ds.map dmk = dm
      have hSl := blk_lt HW.out.1.s
      have hSn : ¬ W1.heap.size = V.heap.size := by omega
      have cS := blk_cell HW.out.1.s (j := 0) rfl
      by_cases hk2 : k < 2
      · have hk2i : (k : Int) < 2 := by omega
        go_wp2_with (fail)
        have bA : Below V.heap.size V (V.alloc (.cells #[.int .i64 0] 3)) := (Below.refl _ _).alloc (Nat.le_refl _) _
        have HC3 := HW.out.1.on hPl bA
        have HN3 : (V.alloc (.cells #[.int .i64 0] 3)).heap[V.heap.size]? = some (.cells #[.int .i64 ((0 : Nat) : Int)] 3) := blk_new V _
        have HM3 := HW.out.2.1.on bA
        have hz5 : (V.alloc (.cells #[.int .i64 0] 3)).heap.size = V.heap.size + 1 := by simp
        clear bA cS
        generalize V.alloc (.cells #[.int .i64 0] 3) = V2 at *
        have hNB : w.heap.size + 1 + 1 < V.heap.size := by omega
        have hdl2 : ∀ D ∈ ds, D < V.heap.size := mks_lt HW.out.2.1
        have HDl : Hid (∀ D ∈ ds, w.heap.size ≤ D) := HW.out.2.2
        clear HW hSn
        generalize V.heap.size = NB at *
        refine (wpIn_wide (n := 9)).1 ?_
        refine wlk_top 31 8 noU (noU_stab _) (fun k h => h.elim) rfl hIt.1 (fun k hk => by have := hPl k hk; omega) (hIt.2 V2 HC3.kp)
          (fun pre V3 => Cs w W1 P o (ev : Int) (.func (.func gf) #[] lb) V3 ∧ V3.heap[NB]? = some (.cells #[.int .i64 (pre.length : Int)] 3) ∧ Mks ds V3 ∧ pre.length < ev)
          (fun cc pre V3 => (cc = .exit 2 ∧ pre.length = ev ∧ Cs w W1 P o (ev : Int) (.func (.func gf) #[] lb) V3 ∧ V3.heap[NB]? = some (.cells #[.int .i64 (pre.length : Int)] 3) ∧ Mks ds V3) ∨ ¬ (pre <+: D)) ?hI ?hIx ?h0 ?assign ?body ?done ?stop
        case hI =>
          rintro s X Y row ⟨h1, h2, h3, h4⟩ hg hr
          exact ⟨h1.grown hPl (B := V2.heap.size) (by omega) (by omega) hg hr, blk_kept h2 hg (fun r e => (hr r e).2), mks_kp h3 (fun D hD => hg.block D (mks_lt h3 D hD) (fun e => by have := (hr D e.symm).1; have := hdl2 D hD; omega)), h4⟩
        case hIx =>
          rintro cc s X Y row (⟨rfl, h0, h1, h2, h3⟩ | h) hg hr
          · exact .inl ⟨rfl, h0, h1.grown hPl (B := V2.heap.size) (by omega) (by omega) hg hr, blk_kept h2 hg (fun r e => (hr r e).2), mks_kp h3 (fun D hD => hg.block D (mks_lt h3 D hD) (fun e => by have := (hr D e.symm).1; have := hdl2 D hD; omega))⟩
          · exact .inr h
        case h0 => exact ⟨HC3, HN3, HM3, by simp; omega⟩
        case assign =>
          intro l x V K hK
          simp only [List.setIfInBounds_toArray, List.set_cons_succ, List.set_cons_zero] at hK ⊢
          gi_wp2
          exact hK
        case body =>
          rintro l2 pre x V3 hl hr2 hz ⟨hC, hN, hM, hje⟩ hjD
          simp only [List.setIfInBounds_toArray, List.set_cons_succ, List.set_cons_zero]
          obtain ⟨dx, dy, er, A, hA1, _⟩ := AT pre.length (by omega)
          obtain ⟨hdD, rfl⟩ := hA1 hjD
          have hx := x.2
          have hsD := (D[pre.length]'hjD).2
          rw [hdD] at hsD
          have hp := pow_small hn
          obtain ⟨x1, x2, x3, x4⟩ := hx
          obtain ⟨d1, d2, d3, d4⟩ := hsD
          simp only at d1 d2 d3 d4
          have oX : (FloatKind.f64.format.order (FL x.1.1) (FL dx) == some .eq) = decide (x.1.1 = dx) := by rw [order_wd (wd_FL (by omega)) (wd_FL (by omega)), compare_eq]
          have oY : (FloatKind.f64.format.order (FL x.1.2) (FL dy) == some .eq) = decide (x.1.2 = dy) := by rw [order_wd (wd_FL (by omega)) (wd_FL (by omega)), compare_eq]
          have hQr : ∀ a V', RK V2.heap.size noU V3 V' → x.1 ≠ (dx, dy) → (ownPostU V2.heap.size noU (Kpt P) (fun (pre : List (SQ n)) V3 => Cs w W1 P o (ev : Int) (.func (.func gf) #[] lb) V3 ∧ V3.heap[NB]? = some (.cells #[.int .i64 (pre.length : Int)] 3) ∧ Mks ds V3 ∧ pre.length < ev) (fun cc pre V3 => (cc = .exit 2 ∧ pre.length = ev ∧ Cs w W1 P o (ev : Int) (.func (.func gf) #[] lb) V3 ∧ V3.heap[NB]? = some (.cells #[.int .i64 (pre.length : Int)] 3) ∧ Mks ds V3) ∨ ¬ (pre <+: D)) (pre ++ [x]) V3) .ret a V' := fun a V' h1 h2 => ⟨h1, .inr (fun hp => h2 (by rw [pre_at hp hjD]; exact hdD))⟩
          have hlen : (pre ++ [x]).length = pre.length + 1 := by simp
          have hQn : ∀ a V', RK V2.heap.size noU V3 V' → Kpt P V3 V' → Cs w W1 P o (ev : Int) (.func (.func gf) #[] lb) V' → V'.heap[NB]? = some (.cells #[.int .i64 ((pre.length : Int) + 1)] 3) → Mks ds V' → pre.length + 1 < ev → (ownPostU V2.heap.size noU (Kpt P) (fun (pre : List (SQ n)) V3 => Cs w W1 P o (ev : Int) (.func (.func gf) #[] lb) V3 ∧ V3.heap[NB]? = some (.cells #[.int .i64 (pre.length : Int)] 3) ∧ Mks ds V3 ∧ pre.length < ev) (fun cc pre V3 => (cc = .exit 2 ∧ pre.length = ev ∧ Cs w W1 P o (ev : Int) (.func (.func gf) #[] lb) V3 ∧ V3.heap[NB]? = some (.cells #[.int .i64 (pre.length : Int)] 3) ∧ Mks ds V3) ∨ ¬ (pre <+: D)) (pre ++ [x]) V3) .normal a V' := fun a V' h1 h2 h3 h4 h5 h6 => ⟨h1, h2, h3, by rw [hlen]; exact h4, h5, by rw [hlen]; exact h6⟩
          have hQe : ∀ a V', RK V2.heap.size noU V3 V' → Cs w W1 P o (ev : Int) (.func (.func gf) #[] lb) V' → V'.heap[NB]? = some (.cells #[.int .i64 ((pre.length : Int) + 1)] 3) → Mks ds V' → pre.length + 1 = ev → (ownPostU V2.heap.size noU (Kpt P) (fun (pre : List (SQ n)) V3 => Cs w W1 P o (ev : Int) (.func (.func gf) #[] lb) V3 ∧ V3.heap[NB]? = some (.cells #[.int .i64 (pre.length : Int)] 3) ∧ Mks ds V3 ∧ pre.length < ev) (fun cc pre V3 => (cc = .exit 2 ∧ pre.length = ev ∧ Cs w W1 P o (ev : Int) (.func (.func gf) #[] lb) V3 ∧ V3.heap[NB]? = some (.cells #[.int .i64 (pre.length : Int)] 3) ∧ Mks ds V3) ∨ ¬ (pre <+: D)) (pre ++ [x]) V3) (.exit 2) a V' := fun a V' h1 h3 h4 h5 h6 => ⟨h1, .inl ⟨rfl, by rw [hlen]; exact h6, h3, by rw [hlen]; exact h4, h5⟩⟩
          generalize hQ2 : ownPostU _ _ _ _ _ _ _ = Q2 at hQr hQn hQe ⊢
          have HC3' : Hid (Cs w W1 P o (ev : Int) (.func (.func gf) #[] lb) V3) := hC
          have HN3' : Hid (V3.heap[NB]? = some (.cells #[.int .i64 (pre.length : Int)] 3)) := hN
          have HM3' : Hid (Mks ds V3) := hM
          have HQr : Hid (∀ a V', RK V2.heap.size noU V3 V' → x.1 ≠ (dx, dy) → Q2 .ret a V') := hQr
          have HQn : Hid (∀ a V', RK V2.heap.size noU V3 V' → Kpt P V3 V' → Cs w W1 P o (ev : Int) (.func (.func gf) #[] lb) V' → V'.heap[NB]? = some (.cells #[.int .i64 ((pre.length : Int) + 1)] 3) → Mks ds V' → pre.length + 1 < ev → Q2 .normal a V') := hQn
          have HQe : Hid (∀ a V', RK V2.heap.size noU V3 V' → Cs w W1 P o (ev : Int) (.func (.func gf) #[] lb) V' → V'.heap[NB]? = some (.cells #[.int .i64 ((pre.length : Int) + 1)] 3) → Mks ds V' → pre.length + 1 = ev → Q2 (.exit 2) a V') := hQe
          have c0 := blk_cell hC.o (j := 0) rfl
          have cN := blk_cell hN (j := 0) rfl
          clear hQ2 hQr hQn hQe hA1 hdD hjD hlen hC hN hM d1 d2 d3 d4 x1 x2 x3 x4 hdm
          have hje3 : pre.length < 3000 := by omega
          generalize pre.length = j at *
          gi_wp2_with (fail)
          refine ⟨trivial, (CallsIn.inRound l2 (callsIn_wide.2 (A _))).mono ?_⟩
          rintro e V4 ⟨rfl, hb4⟩
          have bA : Below V4.heap.size V4 (V4.alloc (.cells #[.int .i64 dx, .int .i64 dy] 27)) := (Below.refl _ _).alloc (Nat.le_refl _) _
          have HB5 : Hid (Below V3.heap.size V3 (V4.alloc (.cells #[.int .i64 dx, .int .i64 dy] 27))) := hb4.trans (bA.mono hb4.size)
          clear hb4 bA c0 cN A
          gi_wp2_with (fail)
          refine ⟨trivial, (CallsIn.inRound l2 (callsIn_wide.2 (number_any _ _ _))).mono ?_⟩
          rintro e V6 ⟨rfl, hb6⟩
          have HB6 : Hid (Below V3.heap.size V3 V6) := HB5.out.trans (hb6.mono HB5.out.size)
          clear hb6 HB5
          have HC6 : Hid (Cs w W1 P o (ev : Int) (.func (.func gf) #[] lb) V6) := HC3'.out.on hPl HB6.out
          have HN6 : Hid (V6.heap[NB]? = some (.cells #[.int .i64 (j : Int)] 3)) := blk_on HN3'.out HB6.out
          have HM6 : Hid (Mks ds V6) := HM3'.out.on HB6.out
          have HR6 : Hid (RK V2.heap.size noU V3 V6) := RK.below (noU_stab 0) (Nat.zero_le _) HB6.out
          have HK6 : Hid (Kpt P V3 V6) := kpt_on hPl (by omega) HB6.out
          by_cases hxd : x.1 = (dx, dy)
          · have e1 : x.1.1 = dx := by rw [hxd]
            have e2 : x.1.2 = dy := by rw [hxd]
            rw [decide_eq_true e1] at oX
            rw [decide_eq_true e2] at oY
            have c7 := blk_cell HN6.out (j := 0) rfl
            have f7 := blk_free HN6.out 0
            have cE := blk_cell HC6.out.e (j := 0) rfl
            have cS := blk_cell HC6.out.s (j := 0) rfl
            have g1 : ¬ w.heap.size + 1 = NB := by omega
            have g2 : ¬ W1.heap.size = NB := by omega
            have hw1 : IntKind.i64.wrap ((j : Int) + 1) = (j : Int) + 1 := by rw [IntKind.wrap_i64]; omega
            have F7 : ∀ u : Int, u = (j : Int) + 1 → Hid (Cs w W1 P o (ev : Int) (.func (.func gf) #[] lb) (V6.setCell ⟨NB, 0, none⟩ (.int .i64 u)) ∧ (V6.setCell ⟨NB, 0, none⟩ (.int .i64 u)).heap[NB]? = some (.cells #[.int .i64 u] 3) ∧ (∃ r, (V6.setCell ⟨NB, 0, none⟩ (.int .i64 u)).heap[l2]? = some (.loop r)) ∧ (∀ a V8, Below (V6.setCell ⟨NB, 0, none⟩ (.int .i64 u)).heap.size (V6.setCell ⟨NB, 0, none⟩ (.int .i64 u)) V8 → j + 1 = ev → Q2 (.exit 2) a V8) ∧ (∀ a V8, Below (V6.setCell ⟨NB, 0, none⟩ (.int .i64 u)).heap.size (V6.setCell ⟨NB, 0, none⟩ (.int .i64 u)) V8 → j + 1 < ev → Q2 .normal a V8)) := fun u hu => by
              have HC7 := HC6.out.far (u := .int .i64 u) hPl hz3 hSl
              have HN7 : (V6.setCell ⟨NB, 0, none⟩ (.int .i64 u)).heap[NB]? = some (.cells #[.int .i64 u] 3) := by simpa using blk_set HN6.out (j := 0) (.int .i64 u)
              have HM7 : Mks ds (V6.setCell ⟨NB, 0, none⟩ (.int .i64 u)) := ⟨HM6.out.1, fun D hD => blk_far (HM6.out.2 D hD) (by have := hdl2 D hD; omega) _⟩
              have HR7 : RK V2.heap.size noU V3 (V6.setCell ⟨NB, 0, none⟩ (.int .i64 u)) := HR6.out.trans (rk_set _ _ (by omega))
              have HK7 : Kpt P V3 (V6.setCell ⟨NB, 0, none⟩ (.int .i64 u)) := kpt_t HK6.out (kpt_set _ _ _ _ (fun e => by have := hPl _ e; omega))
              refine ⟨HC7, HN7, ?_, fun a V8 h e => HQe.out a V8 (HR7.trans (RK.below (noU_stab 0) (Nat.zero_le _) h)) (HC7.on hPl h) (by rw [← hu]; exact blk_on HN7 h) (HM7.on h) e, fun a V8 h e => HQn.out a V8 (HR7.trans (RK.below (noU_stab 0) (Nat.zero_le _) h)) (kpt_t HK7 (kpt_on hPl HC7.kp.1 h)) (HC7.on hPl h) (by rw [← hu]; exact blk_on HN7 h) (HM7.on h) e⟩
              obtain ⟨r, hr⟩ := hr2
              exact ⟨r, blk_far (blk_on hr HB6.out) (by omega) _⟩
            have HF7 : Hid _ := F7
            clear F7 HC6 HM6 HR6 HK6 HB6 e1 e2 hxd hr2 hl HC3' HN3' HM3' HQr HQn HQe
            by_cases hj2 : (j : Int) + 1 = 2
            · gi_wp2_with (fail)
              have G7 := (HF7.out 2 hj2.symm).out
              clear c7 f7 cE cS HN6 HF7
              generalize V6.setCell ⟨NB, 0, none⟩ _ = V7 at *
              obtain ⟨hC7, hN7, hL7, hE1, hE2⟩ := G7
              have HC7 : Hid (Cs w W1 P o (ev : Int) (.func (.func gf) #[] lb) V7) := hC7
              have HN7 : Hid (V7.heap[NB]? = some (.cells #[.int .i64 2] 3)) := hN7
              have HL7 : Hid (∃ r, V7.heap[l2]? = some (.loop r)) := hL7
              have HE1 : Hid (∀ a V8, Below V7.heap.size V7 V8 → j + 1 = ev → Q2 (.exit 2) a V8) := hE1
              have HE2 : Hid (∀ a V8, Below V7.heap.size V7 V8 → j + 1 < ev → Q2 .normal a V8) := hE2
              clear hC7 hN7 hL7 hE1 hE2
              refine wlk_in 51 11 noU (noU_stab _) (fun k h => h.elim) HL7.out rfl hIt.1 (fun k hk => by have := hPl k hk; have := HC7.out.kp.1; omega) (hIt.2 V7 HC7.out.kp) (fun pre' V8 => pre' = [] ∧ Below V7.heap.size V7 V8) (fun cc pre' V8 => (cc = .exit 4 ∧ Below V7.heap.size V7 V8) ∨ ¬ (pre' <+: D)) ?hI2 ?hIx2 ?h02 ?assign2 ?body2 ?done2 ?stop2
              case hI2 =>
                rintro s X Y row ⟨h1, h2⟩ hg hr
                exact ⟨h1, h2.grown hg h2.size (fun k e => (hr k e).1)⟩
              case hIx2 =>
                rintro cc s X Y row (⟨h1, h2⟩ | h) hg hr
                · exact .inl ⟨h1, h2.grown hg h2.size (fun k e => (hr k e).1)⟩
                · exact .inr h
              case h02 => exact ⟨rfl, Below.refl _ _⟩
              case assign2 =>
                intro l x V K hK
                simp only [List.setIfInBounds_toArray, List.set_cons_succ, List.set_cons_zero] at hK ⊢
                gi_wp2
                exact hK
              case body2 =>
                rintro l3 pre' x' V8 hl3 hr3 hz8 ⟨rfl, hb8⟩ hN8
                simp only [List.setIfInBounds_toArray, List.set_cons_succ, List.set_cons_zero]
                have cR := blk_cell (blk_on HC7.out.r hb8) (j := 0) rfl
                have fR := blk_free (blk_on HC7.out.r hb8) 0
                obtain ⟨y1, y2, y3, y4⟩ := x'.2
                have o1 : (FloatKind.f64.format.order (FL x'.1.1) 0 == some .eq) = decide (x'.1.1 = 0) := by rw [order_wd (wd_FL (by omega)) wd_zero, compare_eq]
                have o2 : (FloatKind.f64.format.order (FL x'.1.2) 0 == some .eq) = decide (x'.1.2 = 0) := by rw [order_wd (wd_FL (by omega)) wd_zero, compare_eq]
                have HP1 : Hid (∀ a, (ownPostU V7.heap.size noU (Kpt P) (fun (pre' : List (SQ n)) V8 => pre' = [] ∧ Below V7.heap.size V7 V8) (fun cc pre' V8 => (cc = .exit 4 ∧ Below V7.heap.size V7 V8) ∨ ¬ (pre' <+: D)) ([] ++ [x']) V8) (.exit 4) a V8) := fun a => ⟨RK.refl _, .inl ⟨rfl, hb8⟩⟩
                have HP2 : Hid (x'.1 ≠ (0, 0) → ∀ a u, (ownPostU V7.heap.size noU (Kpt P) (fun (pre' : List (SQ n)) V8 => pre' = [] ∧ Below V7.heap.size V7 V8) (fun cc pre' V8 => (cc = .exit 4 ∧ Below V7.heap.size V7 V8) ∨ ¬ (pre' <+: D)) ([] ++ [x']) V8) .ret a (V8.setCell ⟨w.heap.size + 1 + 1, 0, none⟩ u)) := fun h a u => ⟨rk_set _ _ (by have := HC7.out.kp.1; omega), .inr (fun hp => h (by
                  obtain ⟨rest, hr⟩ := hp
                  exact hD0 x' (by rw [← hr]; rfl)))⟩
                generalize hQ3 : ownPostU _ _ _ _ _ _ _ = Q3 at HP1 HP2 ⊢
                clear hQ3 hb8 hr3 hl3 y1 y2 y3 y4 HE1 HE2 HN7 HC7 HL7
                by_cases hx0 : x'.1 = (0, 0)
                · rw [decide_eq_true (show x'.1.1 = 0 by rw [hx0])] at o1
                  rw [decide_eq_true (show x'.1.2 = 0 by rw [hx0])] at o2
                  clear HP2 hx0
                  gi_wp2
                  exact HP1.out _
                · have HP3 : Hid (∀ a u, Q3 .ret a (V8.setCell ⟨w.heap.size + 1 + 1, 0, none⟩ u)) := HP2.out hx0
                  by_cases a1 : x'.1.1 = 0
                  · have a2 : ¬ x'.1.2 = 0 := fun a2 => hx0 (Prod.ext a1 a2)
                    rw [decide_eq_true a1] at o1
                    rw [decide_eq_false a2] at o2
                    clear HP1 HP2 hx0 a1 a2
                    gi_wp2
                    exact HP3.out _ _
                  · rw [decide_eq_false a1] at o1
                    clear HP1 HP2 hx0 a1 o2
                    gi_wp2
                    exact HP3.out _ _
              case done2 =>
                rintro xs V8 hxs ⟨h1, hb8⟩
                have c7 := blk_cell (blk_on HN7.out hb8) (j := 0) rfl
                have cE := blk_cell (blk_on HC7.out.e hb8) (j := 0) rfl
                by_cases hje2 : j + 1 = ev
                · have hje2i : (ev : Int) = 2 := by omega
                  gi_wp2
                  exact HE1.out _ _ hb8 hje2
                · have hje2i : ¬ (2 : Int) = (ev : Int) := by omega
                  have hje2k : ¬ (ev : Int) = 2 := by omega
                  gi_wp2
                  exact HE2.out _ _ hb8 (by omega)
              case stop2 =>
                rintro cc pre' V8 hpre (⟨rfl, hb8⟩ | h)
                · have c7 := blk_cell (blk_on HN7.out hb8) (j := 0) rfl
                  have cE := blk_cell (blk_on HC7.out.e hb8) (j := 0) rfl
                  by_cases hje2 : j + 1 = ev
                  · have hje2i : (ev : Int) = 2 := by omega
                    gi_wp2
                    exact HE1.out _ _ hb8 hje2
                  · have hje2i : ¬ (2 : Int) = (ev : Int) := by omega
                    have hje2k : ¬ (ev : Int) = 2 := by omega
                    gi_wp2
                    exact HE2.out _ _ hb8 (by omega)
                · exact absurd hpre h
            · by_cases hje2 : j + 1 = ev
              · have hje2i : (j : Int) + 1 = (ev : Int) := by omega
                have hev2n : ¬ (ev : Int) = 2 := by omega
                have HE1 : Hid _ := (HF7.out ev hje2i.symm).out.2.2.2.1
                clear HF7
                gi_wp2
                exact HE1.out _ _ (Below.refl _ _) hje2
              · have hje2i : ¬ (j : Int) + 1 = (ev : Int) := by omega
                have HE2 : Hid _ := (HF7.out ((j : Int) + 1) rfl).out.2.2.2.2
                clear HF7
                gi_wp2
                exact HE2.out _ _ (Below.refl _ _) (by omega)
          · have HP3 : Hid (∀ a u, Q2 .ret a (V6.setCell ⟨w.heap.size + 1 + 1, 0, none⟩ u)) := fun a u => HQr.out a _ (HR6.out.trans (rk_set _ _ (by omega))) hxd
            have cR := blk_cell HC6.out.r (j := 0) rfl
            have fR := blk_free HC6.out.r 0
            by_cases a1 : x.1.1 = dx
            · have a2 : ¬ x.1.2 = dy := fun a2 => hxd (Prod.ext a1 a2)
              rw [decide_eq_true a1] at oX
              rw [decide_eq_false a2] at oY
              clear HQr HQn HQe hxd a1 a2
              gi_wp2
              exact HP3.out _ _
            · rw [decide_eq_false a1] at oX
              clear HQr HQn HQe hxd a1 oY
              gi_wp2
              exact HP3.out _ _
        case done =>
          rintro D' xs V5 hD rfl ⟨hC, hN, hM, hje⟩ hK
          obtain ⟨dx, dy, er, A, hA1, hA2⟩ := AT xs.length (by omega)
          have her := hA2 rfl
          have hlt : ((xs.length : Nat) : Int) < (ev : Int) := by omega
          have HC5 : Hid (Cs w W1 P o (ev : Int) (.func (.func gf) #[] lb) V5) := hC
          have HM5 : Hid (Mks (D' :: ds) V5) := ⟨List.pairwise_cons.2 ⟨fun E hE => by have := hdl2 E hE; omega, hM.1⟩, fun E hE => by
            rcases List.mem_cons.1 hE with rfl | hE
            · exact hK
            · exact hM.2 E hE⟩
          have HL5 : Hid (∀ E ∈ D' :: ds, w.heap.size ≤ E) := fun E hE => by
            rcases List.mem_cons.1 hE with rfl | hE
            · omega
            · exact HDl.out E hE
          have HN5 : Hid (V5.heap[NB]? = some (.cells #[.int .i64 (xs.length : Int)] 3)) := hN
          have c0 := blk_cell hC.o (j := 0) rfl
          have cN := blk_cell hN (j := 0) rfl
          have Hdm : Hid (ds.map dmk = dm) := hdm
          clear hC hN hM hK hdm hA1 hA2 hIt HC3 HN3 HM3 AT hD0
          generalize hJ : xs.length = j at *
          clear hJ
          go_wp2_with (fail)
          refine (A _).mono ?_
          rintro e V6 ⟨rfl, hb6⟩
          have bA : Below V6.heap.size V6 (V6.alloc (.cells #[.int .i64 dx, .int .i64 dy] 27)) := (Below.refl _ _).alloc (Nat.le_refl _) _
          have HB7 : Hid (Below V5.heap.size V5 (V6.alloc (.cells #[.int .i64 dx, .int .i64 dy] 27))) := hb6.trans (bA.mono hb6.size)
          have cN6 := blk_cell (blk_on HN5.out hb6) (j := 0) rfl
          have cE6 := blk_cell (blk_on HC5.out.e hb6) (j := 0) rfl
          have l6 := blk_lt (blk_on HN5.out hb6)
          have l7 := blk_lt (blk_on HC5.out.e hb6)
          have n6 : ¬ NB = V6.heap.size := by omega
          have n7 : ¬ w.heap.size + 1 = V6.heap.size := by omega
          clear hb6 bA c0 cN A
          go_wp2_with (fail)
          exact ⟨⟨k + 1, D' :: ds, by omega, by rw [← Hdm.out]; rfl, HC5.out.on hPl HB7.out, HM5.out.on HB7.out, HL5.out⟩, by simp [intOf]; omega⟩
        case stop =>
          rintro D' cc pre V5 hD hpre (⟨rfl, h0, hC, hN, hM⟩ | h) hK
          · refine wpIn_wide.2 ?_
            obtain ⟨dx, dy, er, A, hA1, hA2⟩ := AT ev (by omega)
            have hlt : ¬ (ev : Int) < (ev : Int) := by omega
            rw [h0] at hN
            clear h0
            have HC5 : Hid (Cs w W1 P o (ev : Int) (.func (.func gf) #[] lb) V5) := hC
            have HM5 : Hid (Mks (D' :: ds) V5) := ⟨List.pairwise_cons.2 ⟨fun E hE => by have := hdl2 E hE; omega, hM.1⟩, fun E hE => by
              rcases List.mem_cons.1 hE with rfl | hE
              · exact hK
              · exact hM.2 E hE⟩
            have HL5 : Hid (∀ E ∈ D' :: ds, w.heap.size ≤ E) := fun E hE => by
              rcases List.mem_cons.1 hE with rfl | hE
              · omega
              · exact HDl.out E hE
            have HN5 : Hid (V5.heap[NB]? = some (.cells #[.int .i64 (ev : Int)] 3)) := hN
            have c0 := blk_cell hC.o (j := 0) rfl
            have cN := blk_cell hN (j := 0) rfl
            have Hdm : Hid (ds.map dmk = dm) := hdm
            clear hC hN hM hK hdm hA1 hA2 hIt HC3 HN3 HM3 AT hD0
            go_wp2_with (fail)
            refine (A _).mono ?_
            rintro e V6 ⟨rfl, hb6⟩
            have bA : Below V6.heap.size V6 (V6.alloc (.cells #[.int .i64 dx, .int .i64 dy] 27)) := (Below.refl _ _).alloc (Nat.le_refl _) _
            have HB7 : Hid (Below V5.heap.size V5 (V6.alloc (.cells #[.int .i64 dx, .int .i64 dy] 27))) := hb6.trans (bA.mono hb6.size)
            have cN6 := blk_cell (blk_on HN5.out hb6) (j := 0) rfl
            have cE6 := blk_cell (blk_on HC5.out.e hb6) (j := 0) rfl
            have l6 := blk_lt (blk_on HN5.out hb6)
            have l7 := blk_lt (blk_on HC5.out.e hb6)
            have n6 : ¬ NB = V6.heap.size := by omega
            have n7 : ¬ w.heap.size + 1 = V6.heap.size := by omega
            clear hb6 bA c0 cN A
            go_wp2_with (fail)
            exact ⟨⟨k + 1, D' :: ds, by omega, by rw [← Hdm.out]; rfl, HC5.out.on hPl HB7.out, HM5.out.on HB7.out, HL5.out⟩, by simp [intOf]; omega⟩
          · exact absurd hpre h
      · obtain rfl : k = 2 := by omega
        go_wp2_with (fail)
        refine (awakeC _).mono ?_
        rintro e w' ⟨rfl, hw⟩
        obtain rfl := hw.symm
        clear hw
        have HR : Hid ((V.setCell ⟨w.heap.size + 1 + 1, 0, none⟩ (.bool true)).heap[w.heap.size + 1 + 1]? = some (.cells #[.bool true] 4)) := by show _ = _; simpa using blk_set HW.out.1.r (j := 0) (.bool true)
        have HBb : Hid (Below w.heap.size w (V.setCell ⟨w.heap.size + 1 + 1, 0, none⟩ (.bool true))) := HW.out.1.b.setCell (p := ⟨w.heap.size + 1 + 1, 0, none⟩) (by show w.heap.size ≤ w.heap.size + 1 + 1; omega) _
        have HMm : Hid (Mks ds (V.setCell ⟨w.heap.size + 1 + 1, 0, none⟩ (.bool true))) := ⟨HW.out.2.1.1, fun D hD => (KeepsOthers.setCell V ⟨w.heap.size + 1 + 1, 0, none⟩ (.bool true)).same D _ (HW.out.2.1.2 D hD) rfl⟩
        have cR := blk_cell HW.out.1.r (j := 0) rfl
        have fR := blk_free HW.out.1.r 0
        go_wp2_with (fail)
        subst hdm
        refine leaves_marks (fun V => V.heap[w.heap.size + 1 + 1]? = some (.cells #[.bool true] 4) ∧ Below w.heap.size w V) (fun D => w.heap.size ≤ D) (fun V D hD h1 h2 => ⟨blk_putO h2.1 h1, h2.2.trans (belowK_b (w := w) (Nat.le_refl _) _ D _ _ hD h1 rfl rfl)⟩) (fun V hV => ?_) ds _ HMm.out HW.out.2.2 ⟨HR.out, HBb.out⟩
        have q4 := blk_cell hV.1 (j := 0) (v := .bool true) rfl
        exact ⟨.bool true, by simp [results, Try.results6, go_sem, q4], rfl, hV.2⟩
  · have h1 := hev3 (by omega)
    have h2 : 0 ≤ ea := by omega
    clear hev3 hev4 k0 k1 k2 hbw HC2
    go_upto_region 8 with (fail)
    have HCx := HC
    clear HC c1 f1 hn1 hnf h1 h2
    generalize World.alloc _ _ = V0 at HCx ⊢
    refine wp_loop (fun a V => ∃ (k : Nat) (ds : List Nat), k ≤ 2 ∧ a = { tmps := CFr (fun i => a.tmps.getD i undef) o ea w.heap.size W1.heap.size k, defers := ds.map dmk } ∧ Hid (Cs w W1 P o (ev : Int) (.func (.func gf) #[] lb) V ∧ Mks ds V ∧ (∀ D ∈ ds, w.heap.size ≤ D))) (fun a _ => 2 - (intOf (a.tmps.getD 6 undef)).toNat) ?start ?round
    case start => exact ⟨0, [], by omega, rfl, HCx.out, ⟨List.Pairwise.nil, fun D h => by cases h⟩, fun D h => by cases h⟩
    case round =>
      rintro a V ⟨k, ds, hk, ha, HW⟩
      generalize (fun i => a.tmps.getD i undef) = f at ha
      subst ha
      unfold CFr
      clear HCx
      generalize hdm : ds.map dmk = dm
      have hSl := blk_lt HW.out.1.s
      have hSn : ¬ W1.heap.size = V.heap.size := by omega
      have cS := blk_cell HW.out.1.s (j := 0) rfl
      by_cases hk2 : k < 2
      · have hk2i : (k : Int) < 2 := by omega
        go_wp2_with (fail)
        have bA : Below V.heap.size V (V.alloc (.cells #[.int .i64 0] 3)) := (Below.refl _ _).alloc (Nat.le_refl _) _
        have HC3 := HW.out.1.on hPl bA
        have HN3 : (V.alloc (.cells #[.int .i64 0] 3)).heap[V.heap.size]? = some (.cells #[.int .i64 ((0 : Nat) : Int)] 3) := blk_new V _
        have HM3 := HW.out.2.1.on bA
        have hz5 : (V.alloc (.cells #[.int .i64 0] 3)).heap.size = V.heap.size + 1 := by simp
        clear bA cS
        generalize V.alloc (.cells #[.int .i64 0] 3) = V2 at *
        have hNB : w.heap.size + 1 + 1 < V.heap.size := by omega
        have hdl2 : ∀ D ∈ ds, D < V.heap.size := mks_lt HW.out.2.1
        have HDl : Hid (∀ D ∈ ds, w.heap.size ≤ D) := HW.out.2.2
        clear HW hSn
        generalize V.heap.size = NB at *
        refine (wpIn_wide (n := 9)).1 ?_
        refine wlk_top 31 8 noU (noU_stab _) (fun k h => h.elim) rfl hIt.1 (fun k hk => by have := hPl k hk; omega) (hIt.2 V2 HC3.kp)
          (fun pre V3 => Cs w W1 P o (ev : Int) (.func (.func gf) #[] lb) V3 ∧ V3.heap[NB]? = some (.cells #[.int .i64 (pre.length : Int)] 3) ∧ Mks ds V3 ∧ pre.length < ev)
          (fun cc pre V3 => (cc = .exit 2 ∧ pre.length = ev ∧ Cs w W1 P o (ev : Int) (.func (.func gf) #[] lb) V3 ∧ V3.heap[NB]? = some (.cells #[.int .i64 (pre.length : Int)] 3) ∧ Mks ds V3) ∨ ¬ (pre <+: D)) ?hI ?hIx ?h0 ?assign ?body ?done ?stop
        case hI =>
          rintro s X Y row ⟨h1, h2, h3, h4⟩ hg hr
          exact ⟨h1.grown hPl (B := V2.heap.size) (by omega) (by omega) hg hr, blk_kept h2 hg (fun r e => (hr r e).2), mks_kp h3 (fun D hD => hg.block D (mks_lt h3 D hD) (fun e => by have := (hr D e.symm).1; have := hdl2 D hD; omega)), h4⟩
        case hIx =>
          rintro cc s X Y row (⟨rfl, h0, h1, h2, h3⟩ | h) hg hr
          · exact .inl ⟨rfl, h0, h1.grown hPl (B := V2.heap.size) (by omega) (by omega) hg hr, blk_kept h2 hg (fun r e => (hr r e).2), mks_kp h3 (fun D hD => hg.block D (mks_lt h3 D hD) (fun e => by have := (hr D e.symm).1; have := hdl2 D hD; omega))⟩
          · exact .inr h
        case h0 => exact ⟨HC3, HN3, HM3, by simp; omega⟩
        case assign =>
          intro l x V K hK
          simp only [List.setIfInBounds_toArray, List.set_cons_succ, List.set_cons_zero] at hK ⊢
          gi_wp2
          exact hK
        case body =>
          rintro l2 pre x V3 hl hr2 hz ⟨hC, hN, hM, hje⟩ hjD
          simp only [List.setIfInBounds_toArray, List.set_cons_succ, List.set_cons_zero]
          obtain ⟨dx, dy, er, A, hA1, _⟩ := AT pre.length (by omega)
          obtain ⟨hdD, rfl⟩ := hA1 hjD
          have hx := x.2
          have hsD := (D[pre.length]'hjD).2
          rw [hdD] at hsD
          have hp := pow_small hn
          obtain ⟨x1, x2, x3, x4⟩ := hx
          obtain ⟨d1, d2, d3, d4⟩ := hsD
          simp only at d1 d2 d3 d4
          have oX : (FloatKind.f64.format.order (FL x.1.1) (FL dx) == some .eq) = decide (x.1.1 = dx) := by rw [order_wd (wd_FL (by omega)) (wd_FL (by omega)), compare_eq]
          have oY : (FloatKind.f64.format.order (FL x.1.2) (FL dy) == some .eq) = decide (x.1.2 = dy) := by rw [order_wd (wd_FL (by omega)) (wd_FL (by omega)), compare_eq]
          have hQr : ∀ a V', RK V2.heap.size noU V3 V' → x.1 ≠ (dx, dy) → (ownPostU V2.heap.size noU (Kpt P) (fun (pre : List (SQ n)) V3 => Cs w W1 P o (ev : Int) (.func (.func gf) #[] lb) V3 ∧ V3.heap[NB]? = some (.cells #[.int .i64 (pre.length : Int)] 3) ∧ Mks ds V3 ∧ pre.length < ev) (fun cc pre V3 => (cc = .exit 2 ∧ pre.length = ev ∧ Cs w W1 P o (ev : Int) (.func (.func gf) #[] lb) V3 ∧ V3.heap[NB]? = some (.cells #[.int .i64 (pre.length : Int)] 3) ∧ Mks ds V3) ∨ ¬ (pre <+: D)) (pre ++ [x]) V3) .ret a V' := fun a V' h1 h2 => ⟨h1, .inr (fun hp => h2 (by rw [pre_at hp hjD]; exact hdD))⟩
          have hlen : (pre ++ [x]).length = pre.length + 1 := by simp
          have hQn : ∀ a V', RK V2.heap.size noU V3 V' → Kpt P V3 V' → Cs w W1 P o (ev : Int) (.func (.func gf) #[] lb) V' → V'.heap[NB]? = some (.cells #[.int .i64 ((pre.length : Int) + 1)] 3) → Mks ds V' → pre.length + 1 < ev → (ownPostU V2.heap.size noU (Kpt P) (fun (pre : List (SQ n)) V3 => Cs w W1 P o (ev : Int) (.func (.func gf) #[] lb) V3 ∧ V3.heap[NB]? = some (.cells #[.int .i64 (pre.length : Int)] 3) ∧ Mks ds V3 ∧ pre.length < ev) (fun cc pre V3 => (cc = .exit 2 ∧ pre.length = ev ∧ Cs w W1 P o (ev : Int) (.func (.func gf) #[] lb) V3 ∧ V3.heap[NB]? = some (.cells #[.int .i64 (pre.length : Int)] 3) ∧ Mks ds V3) ∨ ¬ (pre <+: D)) (pre ++ [x]) V3) .normal a V' := fun a V' h1 h2 h3 h4 h5 h6 => ⟨h1, h2, h3, by rw [hlen]; exact h4, h5, by rw [hlen]; exact h6⟩
          have hQe : ∀ a V', RK V2.heap.size noU V3 V' → Cs w W1 P o (ev : Int) (.func (.func gf) #[] lb) V' → V'.heap[NB]? = some (.cells #[.int .i64 ((pre.length : Int) + 1)] 3) → Mks ds V' → pre.length + 1 = ev → (ownPostU V2.heap.size noU (Kpt P) (fun (pre : List (SQ n)) V3 => Cs w W1 P o (ev : Int) (.func (.func gf) #[] lb) V3 ∧ V3.heap[NB]? = some (.cells #[.int .i64 (pre.length : Int)] 3) ∧ Mks ds V3 ∧ pre.length < ev) (fun cc pre V3 => (cc = .exit 2 ∧ pre.length = ev ∧ Cs w W1 P o (ev : Int) (.func (.func gf) #[] lb) V3 ∧ V3.heap[NB]? = some (.cells #[.int .i64 (pre.length : Int)] 3) ∧ Mks ds V3) ∨ ¬ (pre <+: D)) (pre ++ [x]) V3) (.exit 2) a V' := fun a V' h1 h3 h4 h5 h6 => ⟨h1, .inl ⟨rfl, by rw [hlen]; exact h6, h3, by rw [hlen]; exact h4, h5⟩⟩
          generalize hQ2 : ownPostU _ _ _ _ _ _ _ = Q2 at hQr hQn hQe ⊢
          have HC3' : Hid (Cs w W1 P o (ev : Int) (.func (.func gf) #[] lb) V3) := hC
          have HN3' : Hid (V3.heap[NB]? = some (.cells #[.int .i64 (pre.length : Int)] 3)) := hN
          have HM3' : Hid (Mks ds V3) := hM
          have HQr : Hid (∀ a V', RK V2.heap.size noU V3 V' → x.1 ≠ (dx, dy) → Q2 .ret a V') := hQr
          have HQn : Hid (∀ a V', RK V2.heap.size noU V3 V' → Kpt P V3 V' → Cs w W1 P o (ev : Int) (.func (.func gf) #[] lb) V' → V'.heap[NB]? = some (.cells #[.int .i64 ((pre.length : Int) + 1)] 3) → Mks ds V' → pre.length + 1 < ev → Q2 .normal a V') := hQn
          have HQe : Hid (∀ a V', RK V2.heap.size noU V3 V' → Cs w W1 P o (ev : Int) (.func (.func gf) #[] lb) V' → V'.heap[NB]? = some (.cells #[.int .i64 ((pre.length : Int) + 1)] 3) → Mks ds V' → pre.length + 1 = ev → Q2 (.exit 2) a V') := hQe
          have c0 := blk_cell hC.o (j := 0) rfl
          have cN := blk_cell hN (j := 0) rfl
          clear hQ2 hQr hQn hQe hA1 hdD hjD hlen hC hN hM d1 d2 d3 d4 x1 x2 x3 x4 hdm
          have hje3 : pre.length < 3000 := by omega
          generalize pre.length = j at *
          gi_wp2_with (fail)
          refine ⟨trivial, (CallsIn.inRound l2 (callsIn_wide.2 (A _))).mono ?_⟩
          rintro e V4 ⟨rfl, hb4⟩
          have bA : Below V4.heap.size V4 (V4.alloc (.cells #[.int .i64 dx, .int .i64 dy] 27)) := (Below.refl _ _).alloc (Nat.le_refl _) _
          have HB5 : Hid (Below V3.heap.size V3 (V4.alloc (.cells #[.int .i64 dx, .int .i64 dy] 27))) := hb4.trans (bA.mono hb4.size)
          clear hb4 bA c0 cN A
          gi_wp2_with (fail)
          refine ⟨trivial, (CallsIn.inRound l2 (callsIn_wide.2 (number_any _ _ _))).mono ?_⟩
          rintro e V6 ⟨rfl, hb6⟩
          have HB6 : Hid (Below V3.heap.size V3 V6) := HB5.out.trans (hb6.mono HB5.out.size)
          clear hb6 HB5
          have HC6 : Hid (Cs w W1 P o (ev : Int) (.func (.func gf) #[] lb) V6) := HC3'.out.on hPl HB6.out
          have HN6 : Hid (V6.heap[NB]? = some (.cells #[.int .i64 (j : Int)] 3)) := blk_on HN3'.out HB6.out
          have HM6 : Hid (Mks ds V6) := HM3'.out.on HB6.out
          have HR6 : Hid (RK V2.heap.size noU V3 V6) := RK.below (noU_stab 0) (Nat.zero_le _) HB6.out
          have HK6 : Hid (Kpt P V3 V6) := kpt_on hPl (by omega) HB6.out
          by_cases hxd : x.1 = (dx, dy)
          · have e1 : x.1.1 = dx := by rw [hxd]
            have e2 : x.1.2 = dy := by rw [hxd]
            rw [decide_eq_true e1] at oX
            rw [decide_eq_true e2] at oY
            have c7 := blk_cell HN6.out (j := 0) rfl
            have f7 := blk_free HN6.out 0
            have cE := blk_cell HC6.out.e (j := 0) rfl
            have cS := blk_cell HC6.out.s (j := 0) rfl
            have g1 : ¬ w.heap.size + 1 = NB := by omega
            have g2 : ¬ W1.heap.size = NB := by omega
            have hw1 : IntKind.i64.wrap ((j : Int) + 1) = (j : Int) + 1 := by rw [IntKind.wrap_i64]; omega
            have F7 : ∀ u : Int, u = (j : Int) + 1 → Hid (Cs w W1 P o (ev : Int) (.func (.func gf) #[] lb) (V6.setCell ⟨NB, 0, none⟩ (.int .i64 u)) ∧ (V6.setCell ⟨NB, 0, none⟩ (.int .i64 u)).heap[NB]? = some (.cells #[.int .i64 u] 3) ∧ (∃ r, (V6.setCell ⟨NB, 0, none⟩ (.int .i64 u)).heap[l2]? = some (.loop r)) ∧ (∀ a V8, Below (V6.setCell ⟨NB, 0, none⟩ (.int .i64 u)).heap.size (V6.setCell ⟨NB, 0, none⟩ (.int .i64 u)) V8 → j + 1 = ev → Q2 (.exit 2) a V8) ∧ (∀ a V8, Below (V6.setCell ⟨NB, 0, none⟩ (.int .i64 u)).heap.size (V6.setCell ⟨NB, 0, none⟩ (.int .i64 u)) V8 → j + 1 < ev → Q2 .normal a V8)) := fun u hu => by
              have HC7 := HC6.out.far (u := .int .i64 u) hPl hz3 hSl
              have HN7 : (V6.setCell ⟨NB, 0, none⟩ (.int .i64 u)).heap[NB]? = some (.cells #[.int .i64 u] 3) := by simpa using blk_set HN6.out (j := 0) (.int .i64 u)
              have HM7 : Mks ds (V6.setCell ⟨NB, 0, none⟩ (.int .i64 u)) := ⟨HM6.out.1, fun D hD => blk_far (HM6.out.2 D hD) (by have := hdl2 D hD; omega) _⟩
              have HR7 : RK V2.heap.size noU V3 (V6.setCell ⟨NB, 0, none⟩ (.int .i64 u)) := HR6.out.trans (rk_set _ _ (by omega))
              have HK7 : Kpt P V3 (V6.setCell ⟨NB, 0, none⟩ (.int .i64 u)) := kpt_t HK6.out (kpt_set _ _ _ _ (fun e => by have := hPl _ e; omega))
              refine ⟨HC7, HN7, ?_, fun a V8 h e => HQe.out a V8 (HR7.trans (RK.below (noU_stab 0) (Nat.zero_le _) h)) (HC7.on hPl h) (by rw [← hu]; exact blk_on HN7 h) (HM7.on h) e, fun a V8 h e => HQn.out a V8 (HR7.trans (RK.below (noU_stab 0) (Nat.zero_le _) h)) (kpt_t HK7 (kpt_on hPl HC7.kp.1 h)) (HC7.on hPl h) (by rw [← hu]; exact blk_on HN7 h) (HM7.on h) e⟩
              obtain ⟨r, hr⟩ := hr2
              exact ⟨r, blk_far (blk_on hr HB6.out) (by omega) _⟩
            have HF7 : Hid _ := F7
            clear F7 HC6 HM6 HR6 HK6 HB6 e1 e2 hxd hr2 hl HC3' HN3' HM3' HQr HQn HQe
            by_cases hj2 : (j : Int) + 1 = 2
            · gi_wp2_with (fail)
              have G7 := (HF7.out 2 hj2.symm).out
              clear c7 f7 cE cS HN6 HF7
              generalize V6.setCell ⟨NB, 0, none⟩ _ = V7 at *
              obtain ⟨hC7, hN7, hL7, hE1, hE2⟩ := G7
              have HC7 : Hid (Cs w W1 P o (ev : Int) (.func (.func gf) #[] lb) V7) := hC7
              have HN7 : Hid (V7.heap[NB]? = some (.cells #[.int .i64 2] 3)) := hN7
              have HL7 : Hid (∃ r, V7.heap[l2]? = some (.loop r)) := hL7
              have HE1 : Hid (∀ a V8, Below V7.heap.size V7 V8 → j + 1 = ev → Q2 (.exit 2) a V8) := hE1
              have HE2 : Hid (∀ a V8, Below V7.heap.size V7 V8 → j + 1 < ev → Q2 .normal a V8) := hE2
              clear hC7 hN7 hL7 hE1 hE2
              refine wlk_in 51 11 noU (noU_stab _) (fun k h => h.elim) HL7.out rfl hIt.1 (fun k hk => by have := hPl k hk; have := HC7.out.kp.1; omega) (hIt.2 V7 HC7.out.kp) (fun pre' V8 => pre' = [] ∧ Below V7.heap.size V7 V8) (fun cc pre' V8 => (cc = .exit 4 ∧ Below V7.heap.size V7 V8) ∨ ¬ (pre' <+: D)) ?hI2 ?hIx2 ?h02 ?assign2 ?body2 ?done2 ?stop2
              case hI2 =>
                rintro s X Y row ⟨h1, h2⟩ hg hr
                exact ⟨h1, h2.grown hg h2.size (fun k e => (hr k e).1)⟩
              case hIx2 =>
                rintro cc s X Y row (⟨h1, h2⟩ | h) hg hr
                · exact .inl ⟨h1, h2.grown hg h2.size (fun k e => (hr k e).1)⟩
                · exact .inr h
              case h02 => exact ⟨rfl, Below.refl _ _⟩
              case assign2 =>
                intro l x V K hK
                simp only [List.setIfInBounds_toArray, List.set_cons_succ, List.set_cons_zero] at hK ⊢
                gi_wp2
                exact hK
              case body2 =>
                rintro l3 pre' x' V8 hl3 hr3 hz8 ⟨rfl, hb8⟩ hN8
                simp only [List.setIfInBounds_toArray, List.set_cons_succ, List.set_cons_zero]
                have cR := blk_cell (blk_on HC7.out.r hb8) (j := 0) rfl
                have fR := blk_free (blk_on HC7.out.r hb8) 0
                obtain ⟨y1, y2, y3, y4⟩ := x'.2
                have o1 : (FloatKind.f64.format.order (FL x'.1.1) 0 == some .eq) = decide (x'.1.1 = 0) := by rw [order_wd (wd_FL (by omega)) wd_zero, compare_eq]
                have o2 : (FloatKind.f64.format.order (FL x'.1.2) 0 == some .eq) = decide (x'.1.2 = 0) := by rw [order_wd (wd_FL (by omega)) wd_zero, compare_eq]
                have HP1 : Hid (∀ a, (ownPostU V7.heap.size noU (Kpt P) (fun (pre' : List (SQ n)) V8 => pre' = [] ∧ Below V7.heap.size V7 V8) (fun cc pre' V8 => (cc = .exit 4 ∧ Below V7.heap.size V7 V8) ∨ ¬ (pre' <+: D)) ([] ++ [x']) V8) (.exit 4) a V8) := fun a => ⟨RK.refl _, .inl ⟨rfl, hb8⟩⟩
                have HP2 : Hid (x'.1 ≠ (0, 0) → ∀ a u, (ownPostU V7.heap.size noU (Kpt P) (fun (pre' : List (SQ n)) V8 => pre' = [] ∧ Below V7.heap.size V7 V8) (fun cc pre' V8 => (cc = .exit 4 ∧ Below V7.heap.size V7 V8) ∨ ¬ (pre' <+: D)) ([] ++ [x']) V8) .ret a (V8.setCell ⟨w.heap.size + 1 + 1, 0, none⟩ u)) := fun h a u => ⟨rk_set _ _ (by have := HC7.out.kp.1; omega), .inr (fun hp => h (by
                  obtain ⟨rest, hr⟩ := hp
                  exact hD0 x' (by rw [← hr]; rfl)))⟩
                generalize hQ3 : ownPostU _ _ _ _ _ _ _ = Q3 at HP1 HP2 ⊢
                clear hQ3 hb8 hr3 hl3 y1 y2 y3 y4 HE1 HE2 HN7 HC7 HL7
                by_cases hx0 : x'.1 = (0, 0)
                · rw [decide_eq_true (show x'.1.1 = 0 by rw [hx0])] at o1
                  rw [decide_eq_true (show x'.1.2 = 0 by rw [hx0])] at o2
                  clear HP2 hx0
                  gi_wp2
                  exact HP1.out _
                · have HP3 : Hid (∀ a u, Q3 .ret a (V8.setCell ⟨w.heap.size + 1 + 1, 0, none⟩ u)) := HP2.out hx0
                  by_cases a1 : x'.1.1 = 0
                  · have a2 : ¬ x'.1.2 = 0 := fun a2 => hx0 (Prod.ext a1 a2)
                    rw [decide_eq_true a1] at o1
                    rw [decide_eq_false a2] at o2
                    clear HP1 HP2 hx0 a1 a2
                    gi_wp2
                    exact HP3.out _ _
                  · rw [decide_eq_false a1] at o1
                    clear HP1 HP2 hx0 a1 o2
                    gi_wp2
                    exact HP3.out _ _
              case done2 =>
                rintro xs V8 hxs ⟨h1, hb8⟩
                have c7 := blk_cell (blk_on HN7.out hb8) (j := 0) rfl
                have cE := blk_cell (blk_on HC7.out.e hb8) (j := 0) rfl
                by_cases hje2 : j + 1 = ev
                · have hje2i : (ev : Int) = 2 := by omega
                  gi_wp2
                  exact HE1.out _ _ hb8 hje2
                · have hje2i : ¬ (2 : Int) = (ev : Int) := by omega
                  have hje2k : ¬ (ev : Int) = 2 := by omega
                  gi_wp2
                  exact HE2.out _ _ hb8 (by omega)
              case stop2 =>
                rintro cc pre' V8 hpre (⟨rfl, hb8⟩ | h)
                · have c7 := blk_cell (blk_on HN7.out hb8) (j := 0) rfl
                  have cE := blk_cell (blk_on HC7.out.e hb8) (j := 0) rfl
                  by_cases hje2 : j + 1 = ev
                  · have hje2i : (ev : Int) = 2 := by omega
                    gi_wp2
                    exact HE1.out _ _ hb8 hje2
                  · have hje2i : ¬ (2 : Int) = (ev : Int) := by omega
                    have hje2k : ¬ (ev : Int) = 2 := by omega
                    gi_wp2
                    exact HE2.out _ _ hb8 (by omega)
                · exact absurd hpre h
            · by_cases hje2 : j + 1 = ev
              · have hje2i : (j : Int) + 1 = (ev : Int) := by omega
                have hev2n : ¬ (ev : Int) = 2 := by omega
                have HE1 : Hid _ := (HF7.out ev hje2i.symm).out.2.2.2.1
                clear HF7
                gi_wp2
                exact HE1.out _ _ (Below.refl _ _) hje2
              · have hje2i : ¬ (j : Int) + 1 = (ev : Int) := by omega
                have HE2 : Hid _ := (HF7.out ((j : Int) + 1) rfl).out.2.2.2.2
                clear HF7
                gi_wp2
                exact HE2.out _ _ (Below.refl _ _) (by omega)
          · have HP3 : Hid (∀ a u, Q2 .ret a (V6.setCell ⟨w.heap.size + 1 + 1, 0, none⟩ u)) := fun a u => HQr.out a _ (HR6.out.trans (rk_set _ _ (by omega))) hxd
            have cR := blk_cell HC6.out.r (j := 0) rfl
            have fR := blk_free HC6.out.r 0
            by_cases a1 : x.1.1 = dx
            · have a2 : ¬ x.1.2 = dy := fun a2 => hxd (Prod.ext a1 a2)
              rw [decide_eq_true a1] at oX
              rw [decide_eq_false a2] at oY
              clear HQr HQn HQe hxd a1 a2
              gi_wp2
              exact HP3.out _ _
            · rw [decide_eq_false a1] at oX
              clear HQr HQn HQe hxd a1 oY
              gi_wp2
              exact HP3.out _ _
        case done =>
          rintro D' xs V5 hD rfl ⟨hC, hN, hM, hje⟩ hK
          obtain ⟨dx, dy, er, A, hA1, hA2⟩ := AT xs.length (by omega)
          have her := hA2 rfl
          have hlt : ((xs.length : Nat) : Int) < (ev : Int) := by omega
          have HC5 : Hid (Cs w W1 P o (ev : Int) (.func (.func gf) #[] lb) V5) := hC
          have HM5 : Hid (Mks (D' :: ds) V5) := ⟨List.pairwise_cons.2 ⟨fun E hE => by have := hdl2 E hE; omega, hM.1⟩, fun E hE => by
            rcases List.mem_cons.1 hE with rfl | hE
            · exact hK
            · exact hM.2 E hE⟩
          have HL5 : Hid (∀ E ∈ D' :: ds, w.heap.size ≤ E) := fun E hE => by
            rcases List.mem_cons.1 hE with rfl | hE
            · omega
            · exact HDl.out E hE
          have HN5 : Hid (V5.heap[NB]? = some (.cells #[.int .i64 (xs.length : Int)] 3)) := hN
          have c0 := blk_cell hC.o (j := 0) rfl
          have cN := blk_cell hN (j := 0) rfl
          have Hdm : Hid (ds.map dmk = dm) := hdm
          clear hC hN hM hK hdm hA1 hA2 hIt HC3 HN3 HM3 AT hD0
          generalize hJ : xs.length = j at *
          clear hJ
          go_wp2_with (fail)
          refine (A _).mono ?_
          rintro e V6 ⟨rfl, hb6⟩
          have bA : Below V6.heap.size V6 (V6.alloc (.cells #[.int .i64 dx, .int .i64 dy] 27)) := (Below.refl _ _).alloc (Nat.le_refl _) _
          have HB7 : Hid (Below V5.heap.size V5 (V6.alloc (.cells #[.int .i64 dx, .int .i64 dy] 27))) := hb6.trans (bA.mono hb6.size)
          have cN6 := blk_cell (blk_on HN5.out hb6) (j := 0) rfl
          have cE6 := blk_cell (blk_on HC5.out.e hb6) (j := 0) rfl
          have l6 := blk_lt (blk_on HN5.out hb6)
          have l7 := blk_lt (blk_on HC5.out.e hb6)
          have n6 : ¬ NB = V6.heap.size := by omega
          have n7 : ¬ w.heap.size + 1 = V6.heap.size := by omega
          clear hb6 bA c0 cN A
          go_wp2_with (fail)
          exact ⟨⟨k + 1, D' :: ds, by omega, by rw [← Hdm.out]; rfl, HC5.out.on hPl HB7.out, HM5.out.on HB7.out, HL5.out⟩, by simp [intOf]; omega⟩
        case stop =>
          rintro D' cc pre V5 hD hpre (⟨rfl, h0, hC, hN, hM⟩ | h) hK
          · refine wpIn_wide.2 ?_
            obtain ⟨dx, dy, er, A, hA1, hA2⟩ := AT ev (by omega)
            have hlt : ¬ (ev : Int) < (ev : Int) := by omega
            rw [h0] at hN
            clear h0
            have HC5 : Hid (Cs w W1 P o (ev : Int) (.func (.func gf) #[] lb) V5) := hC
            have HM5 : Hid (Mks (D' :: ds) V5) := ⟨List.pairwise_cons.2 ⟨fun E hE => by have := hdl2 E hE; omega, hM.1⟩, fun E hE => by
              rcases List.mem_cons.1 hE with rfl | hE
              · exact hK
              · exact hM.2 E hE⟩
            have HL5 : Hid (∀ E ∈ D' :: ds, w.heap.size ≤ E) := fun E hE => by
              rcases List.mem_cons.1 hE with rfl | hE
              · omega
              · exact HDl.out E hE
            have HN5 : Hid (V5.heap[NB]? = some (.cells #[.int .i64 (ev : Int)] 3)) := hN
            have c0 := blk_cell hC.o (j := 0) rfl
            have cN := blk_cell hN (j := 0) rfl
            have Hdm : Hid (ds.map dmk = dm) := hdm
            clear hC hN hM hK hdm hA1 hA2 hIt HC3 HN3 HM3 AT hD0
            go_wp2_with (fail)
            refine (A _).mono ?_
            rintro e V6 ⟨rfl, hb6⟩
            have bA : Below V6.heap.size V6 (V6.alloc (.cells #[.int .i64 dx, .int .i64 dy] 27)) := (Below.refl _ _).alloc (Nat.le_refl _) _
            have HB7 : Hid (Below V5.heap.size V5 (V6.alloc (.cells #[.int .i64 dx, .int .i64 dy] 27))) := hb6.trans (bA.mono hb6.size)
            have cN6 := blk_cell (blk_on HN5.out hb6) (j := 0) rfl
            have cE6 := blk_cell (blk_on HC5.out.e hb6) (j := 0) rfl
            have l6 := blk_lt (blk_on HN5.out hb6)
            have l7 := blk_lt (blk_on HC5.out.e hb6)
            have n6 : ¬ NB = V6.heap.size := by omega
            have n7 : ¬ w.heap.size + 1 = V6.heap.size := by omega
            clear hb6 bA c0 cN A
            go_wp2_with (fail)
            exact ⟨⟨k + 1, D' :: ds, by omega, by rw [← Hdm.out]; rfl, HC5.out.on hPl HB7.out, HM5.out.on HB7.out, HL5.out⟩, by simp [intOf]; omega⟩
          · exact absurd hpre h
      · obtain rfl : k = 2 := by omega
        go_wp2_with (fail)
        refine (awakeC _).mono ?_
        rintro e w' ⟨rfl, hw⟩
        obtain rfl := hw.symm
        clear hw
        have HR : Hid ((V.setCell ⟨w.heap.size + 1 + 1, 0, none⟩ (.bool true)).heap[w.heap.size + 1 + 1]? = some (.cells #[.bool true] 4)) := by show _ = _; simpa using blk_set HW.out.1.r (j := 0) (.bool true)
        have HBb : Hid (Below w.heap.size w (V.setCell ⟨w.heap.size + 1 + 1, 0, none⟩ (.bool true))) := HW.out.1.b.setCell (p := ⟨w.heap.size + 1 + 1, 0, none⟩) (by show w.heap.size ≤ w.heap.size + 1 + 1; omega) _
        have HMm : Hid (Mks ds (V.setCell ⟨w.heap.size + 1 + 1, 0, none⟩ (.bool true))) := ⟨HW.out.2.1.1, fun D hD => (KeepsOthers.setCell V ⟨w.heap.size + 1 + 1, 0, none⟩ (.bool true)).same D _ (HW.out.2.1.2 D hD) rfl⟩
        have cR := blk_cell HW.out.1.r (j := 0) rfl
        have fR := blk_free HW.out.1.r 0
        go_wp2_with (fail)
        subst hdm
        refine leaves_marks (fun V => V.heap[w.heap.size + 1 + 1]? = some (.cells #[.bool true] 4) ∧ Below w.heap.size w V) (fun D => w.heap.size ≤ D) (fun V D hD h1 h2 => ⟨blk_putO h2.1 h1, h2.2.trans (belowK_b (w := w) (Nat.le_refl _) _ D _ _ hD h1 rfl rfl)⟩) (fun V hV => ?_) ds _ HMm.out HW.out.2.2 ⟨HR.out, HBb.out⟩
        have q4 := blk_cell hV.1 (j := 0) (v := .bool true) rfl
        exact ⟨.bool true, by simp [results, Try.results6, go_sem, q4], rfl, hV.2⟩
end Go.Proofs.Ytlfdlifmcabfjaa
