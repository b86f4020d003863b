/-
  Put, Cut.
-/
import Derived.Test.YtfbkjghipahipaaTrP
namespace Go.Proofs.Ytfbkjghipahipaa
open Go.RowKit Go.Shelf
set_option linter.unusedVariables false
set_option linter.unusedSimpArgs false
attribute [local go_sem] Oper.semAt_some

theorem blk_kept {W W' : World} {row : Option Nat} {B : Nat} {cs : Array Value} {ty : TypeId} {fr : Nat × Nat} (h : W.heap[B]? = some (.cells cs ty fr)) (hg : W.grownBy W' row) (hrow : ∀ r, row = some r → ∃ o : Obj, W.heap[r]? = some o ∧ o.isCells = false) : W'.heap[B]? = some (.cells cs ty fr) := by
  rw [hg.block B (blk_lt h) (fun e => ?_)]
  · exact h
  · obtain ⟨o, ho, hc⟩ := hrow B e.symm
    rw [h] at ho
    cases ho
    cases hc
/-- The trie in block t holds the list L; its arena has ar places. -/
def Tr (w : World) (t : Nat) (v : Value) (W M : Nat) (L : List En) (ar : Nat) : Prop := ∃ A r f c, Tri w t v W M A r f c ∧ Inv W M A r f c L ∧ A.length = ar
theorem Tr.on {w w1 : World} {t : Nat} {v : Value} {W M : Nat} {L : List En} {ar : Nat} (h : Tr w t v W M L ar) (hb : Below w.heap.size w w1) : Tr w1 t v W M L ar := by
  obtain ⟨A, r, f, c, h1, h2, h3⟩ := h
  exact ⟨A, r, f, c, h1.on hb, h2, h3⟩
theorem Tr.lt {w : World} {t : Nat} {v : Value} {W M : Nat} {L : List En} {ar : Nat} (h : Tr w t v W M L ar) : t < w.heap.size := by
  obtain ⟨A, r, f, c, h1, _⟩ := h; exact h1.lt
theorem Tr.own {w : World} {t : Nat} {v : Value} {W M : Nat} {L : List En} {ar : Nat} (h : Tr w t v W M L ar) {k : Nat} (e : v.ownBlock = some k) : k < w.heap.size := by
  obtain ⟨A, r, f, c, h1, _⟩ := h; exact h1.own e
def putE (W M : Nat) (L : List En) (k : Nat) (n v : Int) : Int := if mayB W k n then (if cntL W 0 none (putL L ⟨k, n.toNat, v⟩) ≤ M then 0 else 122) else 120
def putM (W M : Nat) (L : List En) (k : Nat) (n v : Int) : List En := if putE W M L k n v = 0 then putL L ⟨k, n.toNat, v⟩ else L
def putA (W M : Nat) (L : List En) (ar k : Nat) (n v : Int) : Nat := if putE W M L k n v = 0 then max ar (cntL W 0 none (putL L ⟨k, n.toNat, v⟩)) else ar
theorem put_bad (t : Nat) (v : Value) (W M : Nat) (L : List En) (ar k : Nat) (n vv : Int) (w : World) (h : Tr w t v W M L ar) (hW : W ≤ 32) (hk : k < 4294967296) (hm : mayB W k n = false) :
    Calls Try.prog 19 #[.pointer (some ⟨t, 0, none⟩), .int .u32 (k : Int), .int .i64 n, .int .i64 vv] w fun e w' => e = .returned (.int .i64 120) ∧ w' = w := by
  obtain ⟨A, r, f, c, h1, _⟩ := h
  have hmy := mayC t W k n w h1.wid hW hk
  rw [hm] at hmy
  go_enter Try.func19, Try.ntmps19
  go_wp2_with (go_at_call 30; refine hmy.mono ?_; rintro e w' ⟨rfl, hw⟩; obtain rfl := hw.symm; clear hw)
  go_ret
  exact ⟨rfl, rfl⟩
theorem below_keepsFrom {B : Nat} {A C : World} (h : Below A.heap.size A C) : KeepsFrom B A C := ⟨h.size, fun k o _ hk _ => by rw [h.block k (blk_lt hk)]; exact hk⟩
theorem Tri.putO {w : World} {t D : Nat} {v : Value} {W M : Nat} {A : List Nd} {r f c : Nat} {ds : Option (List Deferred)} (h : Tri w t v W M A r f c) (hD : w.heap[D]? = some (.deferred ds)) {o : Obj} : Tri (w.putObj D o) t v W M A r f c := by
  refine h.onP (P := fun k => k ≠ D) ⟨(grownBy_putObj' w D o).size, fun k hk => World.putObj_heap_other (by have hk' : k ≠ D := hk; omega)⟩ (fun e => ?_) (fun k hk e => ?_)
  · have := h.1; rw [e, hD] at this; cases this
  · subst e
    rcases h.2.1.2 with ⟨hv, _⟩ | ⟨g, cap, cur, hv, hg, hh, q⟩
    · rw [hv] at hk; cases hk
    · rw [hv] at hk; simp [Value.ownBlock] at hk; rw [hk, hD] at hh; cases hh
theorem Moved.putO {w w1 : World} {t D : Nat} {v v1 : Value} (m : Moved w w1 t v v1) (h : w.heap.size ≤ D) {o : Obj} : Moved w (w1.putObj D o) t v v1 := by
  have hg := grownBy_putObj' w1 D o
  exact ⟨hg.os.trans m.os, hg.tape.trans m.tape, hg.output.trans m.output, Nat.le_trans m.size hg.size, fun k hk h1 h2 => by rw [World.putObj_heap_other (by omega)]; exact m.block k hk h1 h2, m.own⟩
set_option maxRecDepth 100000 in
set_option maxHeartbeats 8000000 in
theorem put_may (t : Nat) (v : Value) (W M : Nat) (A : List Nd) (r f c : Nat) (L : List En) (k n : Nat) (vv : Int) (w : World) (hT : Tri w t v W M A r f c) (hi : Inv W M A r f c L) (hW : W ≤ 32) (hM : M ≤ 1048576) (hk : k < 4294967296) (hm : May W k n) :
    Calls Try.prog 19 #[.pointer (some ⟨t, 0, none⟩), .int .u32 (k : Int), .int .i64 (n : Int), .int .i64 vv] w fun e w' =>
      (cntL W 0 none (putL L ⟨k, n, vv⟩) ≤ M → e = .returned (.int .i64 0) ∧ ∃ v', Tri w' t v' W M (grw n W ⟨A, f, c⟩ r ⟨k, n, vv⟩).1.A (grw n W ⟨A, f, c⟩ r ⟨k, n, vv⟩).2 (grw n W ⟨A, f, c⟩ r ⟨k, n, vv⟩).1.f (grw n W ⟨A, f, c⟩ r ⟨k, n, vv⟩).1.c ∧ Moved w w' t v v') ∧
      (M < cntL W 0 none (putL L ⟨k, n, vv⟩) → e = .returned (.int .i64 122) ∧ Below w.heap.size w w') := by
  have hmy := mayC t W k n w hT.wid hW hk
  rw [show mayB W k n = true from mayB_iff.2 ⟨n, rfl, hm⟩] at hmy
  have hlt := hT.lt
  have hn32 : (n : Int) ≤ 32 := by have := hm.1; omega
  have hA := hi.la
  have hc := hi.le
  obtain ⟨g1, g2, g3, g4⟩ := hi.grow (x := ⟨k, n, vv⟩) hm
  have HG := growC ⟨k, n, vv⟩ W hW hm.1 hk n
  have HT : Hid (Tri w t v W M A r f c) := hT
  have hown : ∀ k, v.ownBlock = some k → k < w.heap.size := fun k e => hT.own e
  have hlen : (pthX W A n W r k 0).length = (pth A n W r k 0).length := by
    have := congrArg List.length (pthX_val (W := W) (d := n) (h := W) (k := k) (n := 0) hi.bd hi.rle (by have := hm.1; omega))
    simpa using this
  have hple := pth_le A n W r k 0
  have bd := hi.bd
  have hr := hi.rle
  dsimp only at g1 g2
  clear hT
  obtain ⟨R, hR⟩ : ∃ R : Ending → World → Prop, R = fun e w' => (cntL W 0 none (putL L ⟨k, n, vv⟩) ≤ M → e = .returned (.int .i64 0) ∧ ∃ v', Tri w' t v' W M (grw n W ⟨A, f, c⟩ r ⟨k, n, vv⟩).1.A (grw n W ⟨A, f, c⟩ r ⟨k, n, vv⟩).2 (grw n W ⟨A, f, c⟩ r ⟨k, n, vv⟩).1.f (grw n W ⟨A, f, c⟩ r ⟨k, n, vv⟩).1.c ∧ Moved w w' t v v') ∧
      (M < cntL W 0 none (putL L ⟨k, n, vv⟩) → e = .returned (.int .i64 122) ∧ Below w.heap.size w w') := ⟨_, rfl⟩
  have HR : Hid (R = fun e w' => (cntL W 0 none (putL L ⟨k, n, vv⟩) ≤ M → e = .returned (.int .i64 0) ∧ ∃ v', Tri w' t v' W M (grw n W ⟨A, f, c⟩ r ⟨k, n, vv⟩).1.A (grw n W ⟨A, f, c⟩ r ⟨k, n, vv⟩).2 (grw n W ⟨A, f, c⟩ r ⟨k, n, vv⟩).1.f (grw n W ⟨A, f, c⟩ r ⟨k, n, vv⟩).1.c ∧ Moved w w' t v v') ∧
      (M < cntL W 0 none (putL L ⟨k, n, vv⟩) → e = .returned (.int .i64 122) ∧ Below w.heap.size w w')) := hR
  rw [← hR]
  clear hR
  refine callsIn_wide.1 (callsIn_of_wp_marks (n := 9) Try.func19 rfl trivial ?_ rfl)
  simp only [Try.ntmps19, List.size_toArray, List.length_cons, List.length_nil, Nat.reduceAdd, Nat.reduceSub, Array.replicate_succ, Array.replicate_zero, List.push_toArray, List.append_toArray, List.nil_append, List.cons_append]
  refine wpIn_wide.2 ?_
  go_wp2_with (fail)
  refine hmy.mono ?_
  rintro e w' ⟨rfl, hw⟩
  obtain rfl := hw.symm
  clear hw hmy
  go_wp2_with (fail)
  refine (pathC t k (n : Int) _).mono ?_
  rintro e w' ⟨rfl, hw⟩
  have hM0 : w'.heap[w.heap.size]? = some (.cells #[.int .i64 ((n : Int) + 1)] 3) := by rw [hw]; exact blk_alloc (blk_alloc (blk_alloc (blk_new w _) _) _) _
  have hCp : Cap w' (w.heap.size + 1) (w.heap.size + 1 + 1 + 1) (w.heap.size + 1 + 1) t n k := by rw [hw]; have := cap_new (w.alloc (.cells #[.int .i64 ((n : Int) + 1)] 3)) t n k; simpa using this
  have hz0 : w'.heap.size = w.heap.size + 1 + 1 + 1 + 1 := by rw [hw]; simp
  have hb0 : Below w.heap.size w w' := by
    rw [hw]
    exact ((((Below.refl _ _).alloc (Nat.le_refl _) _).alloc (by simp) _).alloc (by simp; omega) _).alloc (by simp; omega) _
  have HB0 : Hid (Below w.heap.size w w') := hb0
  have hT0 := HT.out.on hb0
  clear hw hb0
  generalize w' = W0 at *
  simp only [World.size_alloc]
  go_wp2_with (fail)
  refine (wpIn_wide (n := 9)).1 ?_
  refine path_top 23 24 23 24 noU (noU_stab _) (fun k h => h.elim) rfl (P := fun k => k < W0.heap.size ∧ k ≠ w.heap.size) (fun k h => h.1) (path_seq (w.heap.size + 1) (w.heap.size + 1 + 1 + 1) (w.heap.size + 1 + 1) t _ v W M A r f c n k hW hm.1 hk (by omega) bd hr (by omega) (by omega) (by omega) (by omega) (fun k e => by have := hown k e; omega) W0 hCp hT0)
    (fun pre V => V.heap[w.heap.size]? = some (.cells #[.int .i64 ((n : Int) + 1 - pre.length)] 3) ∧ Below w.heap.size w V) (fun _ _ _ => False) ?hI ?hIx ?h0 ?assign ?body ?done ?stop
  case hI =>
    rintro s X Y row ⟨a1, b1⟩ hg hr
    have hr' : ∀ r, row = some r → ∃ o : Obj, X.heap[r]? = some o ∧ o.isCells = false := fun r e => (hr r e).2
    exact ⟨blk_kept a1 hg hr', b1.grown hg (by have := b1.size; omega) (fun k e => by have := (hr k e).1; omega)⟩
  case hIx => exact fun _ _ _ _ _ h => h.elim
  case h0 => exact ⟨by simpa using hM0, HB0.out⟩
  case assign =>
    intro l x V K hK
    simp only [List.setIfInBounds_toArray, List.set_cons_succ, List.set_cons_zero] at hK ⊢
    gi_wp2
    exact hK
  case body =>
    rintro l pre x V hl hr hz ⟨a1, b1⟩ hN
    simp only [List.setIfInBounds_toArray, List.set_cons_succ, List.set_cons_zero]
    rw [hlen] at hN
    have hp1 : ((pre.length : Nat) : Int) < (n : Int) + 1 := by omega
    obtain ⟨N, hN'⟩ : ∃ N : Nat, N = pre.length := ⟨_, rfl⟩
    have HN : Hid (N = pre.length) := hN'
    rw [← hN'] at a1 hp1
    have x0 := blk_cell a1 (j := 0) rfl
    have f0 := blk_free a1 0
    have HA1 : Hid (V.heap[w.heap.size]? = some (.cells #[.int .i64 ((n : Int) + 1 - N)] 3)) := a1
    have hGo : ∀ a, ownPostU W0.heap.size noU (Kpt (fun k => k < W0.heap.size ∧ k ≠ w.heap.size)) (fun (pre : List (PX W A)) V => V.heap[w.heap.size]? = some (.cells #[.int .i64 ((n : Int) + 1 - pre.length)] 3) ∧ Below w.heap.size w V) (fun _ _ _ => False) (pre ++ [x]) V .normal a (V.setCell ⟨w.heap.size, 0, none⟩ (.int .i64 ((n : Int) + 1 - N - 1))) := fun a => by
      refine ⟨rk_set V _ (by omega), ⟨by simp, fun k hk => Below.heap_setCell V ⟨w.heap.size, 0, none⟩ _ k (fun e => hk.2 e)⟩, ?_, Below.setCell (p := ⟨w.heap.size, 0, none⟩) b1 (Nat.le_refl _) _⟩
      have := blk_set HA1.out (j := 0) (.int .i64 ((n : Int) + 1 - N - 1))
      rw [this, List.length_append, ← HN.out]
      simp
      omega
    generalize hQ2 : ownPostU _ _ _ _ _ _ _ = Q2 at hGo ⊢
    clear hQ2 a1 hr hl hN b1 hN' HN HA1
    gi_wp2
    exact hGo _
  case done =>
    rintro D xs V hD rfl ⟨a1, b1⟩ hK
    rw [hlen] at a1
    have hTV := HT.out.on b1
    have HTV : Hid (Tri V t v W M A r f c) := hTV
    have HBV : Hid (Below w.heap.size w V) := b1
    have HDV : Hid (V.heap[D]? = some (.deferred (some []))) := hK
    have x0 := blk_cell a1 (j := 0) rfl
    obtain ⟨c0, c1, c2, c3, c4, c5⟩ := blk6 hTV.1
    have hltV := hTV.lt
    have hlt0 := blk_lt a1
    obtain ⟨p, hp⟩ : ∃ p, p = (pth A n W r k 0).length := ⟨_, rfl⟩
    rw [← hp] at x0 g1 hple
    clear hp hTV b1 hK a1 hM0 hCp hT0 HB0
    have hpn : (p : Int) ≤ (n : Int) + 1 := by omega
    have hcM : (c : Int) ≤ 1048576 := by omega
    have hM0 : (M : Int) ≤ 1048576 := by omega
    have hwr : IntKind.i64.wrap ((c : Int) + ((n : Int) + 1 - p)) = (c : Int) + ((n : Int) + 1 - p) := by rw [IntKind.wrap_i64]; omega
    go_upto_region 8 with (fail)
    have kne : Nonempty (Kin (V)) := ⟨⟨_, Below.refl _ _⟩⟩
    have kc0 : ∀ y : Kin (V), y.val.cell? ⟨t, 5, none⟩ = some (.int .i64 (c : Int)) := fun y => by rw [kin_cell (by first | omega | (simp <;> omega))]; first | assumption | (simp [go_sem]; done) | simp [go_sem, *]
    have kc1 : ∀ y : Kin (V), y.val.cell? ⟨t, 1, none⟩ = some (.int .i64 (M : Int)) := fun y => by rw [kin_cell (by first | omega | (simp <;> omega))]; first | assumption | (simp [go_sem]; done) | simp [go_sem, *]
    have kc2 : ∀ y : Kin (V), y.val.cell? ⟨w.heap.size, 0, none⟩ = some (.int .i64 ((n : Int) + 1 - p)) := fun y => by rw [kin_cell (by first | omega | (simp <;> omega))]; first | assumption | (simp [go_sem]; done) | simp [go_sem, *]
    refine wp_region_kin (V) (Below.refl _ _) (by kernel_rfl) (by kernel_rfl) ?_
    repeat (go_big_quiet_step (fail))
    refine wpQuiet_nil ?_
    rintro wq ⟨⟨xq, hxq⟩, hyq⟩
    have hq : Below (V).heap.size (V) wq := by rw [hyq]; exact hxq
    clear hyq hxq xq
    clear kne kc0 kc1 kc2
    obtain ⟨hcq, hfq⟩ := bcell hq
    have hzq := hq.size
    try simp at hzq
    have HTq : Hid (Tri wq t v W M A r f c) := HTV.out.on hq
    have HBq : Hid (Below w.heap.size w wq) := HBV.out.trans (hq.mono HBV.out.size)
    have HDq : Hid (wq.heap[D]? = some (.deferred (some []))) := blk_on HDV.out hq
    clear hq hcq hfq hzq c0 c1 c2 c3 c4 c5 x0 HTV HBV HDV hltV hlt0
    by_cases hf : cntL W 0 none (putL L ⟨k, n, vv⟩) ≤ M
    · have hf' : ¬ (M : Int) < (c : Int) + ((n : Int) + 1 - p) := by omega
      have hGr := HG t v M A r f c r 0 wq HTq.out bd hr (by omega) (by omega) (by show 0 + n = n; omega)
      obtain ⟨c0, c1, c2, c3, c4, c5⟩ := blk6 HTq.out.1
      rw [Nat.sub_zero] at hGr
      have HI := hf
      clear hf
      go_wp2_with (fail)
      refine hGr.mono ?_
      rintro e w6 ⟨rfl, v6, k1, k2⟩
      have HT6 : Hid (Tri w6 t v6 W M (grw n W ⟨A, f, c⟩ r ⟨k, n, vv⟩).1.A r (grw n W ⟨A, f, c⟩ r ⟨k, n, vv⟩).1.f (grw n W ⟨A, f, c⟩ r ⟨k, n, vv⟩).1.c) := k1
      have HM6 : Hid (Moved w w6 t v v6) := (Moved.of_below HBq.out).trans k2
      have HD6 : Hid (w6.heap[D]? = some (.deferred (some []))) := by
        show _ = _
        rw [k2.block D (blk_lt HDq.out) (fun e => by rw [e] at HDq; have := HTq.out.1; rw [HDq.out] at this; cases this) (fun e => by have := hown D e; omega)]
        exact HDq.out
      clear k1 k2 hGr c0 c1 c2 c3 c4 c5 HTq HDq HBq g3 g4
      obtain ⟨c0, c1, c2, c3, c4, c5⟩ := blk6 HT6.out.1
      have f3 := blk_free HT6.out.1 3
      go_wp2_with (fail)
      have h3 := HT6.out.set3 (grw n W ⟨A, f, c⟩ r ⟨k, n, vv⟩).2
      have hDt : D ≠ t := fun e => by have := HT6.out.1; rw [← e, HD6.out] at this; cases this
      have hD7 : (w6.setCell ⟨t, 3, none⟩ (.int .i64 ((grw n W ⟨A, f, c⟩ r ⟨k, n, vv⟩).2 : Int))).heap[D]? = some (.deferred (some [])) := by rw [Below.heap_setCell _ _ _ _ hDt]; exact HD6.out
      refine ⟨by simp, .inl ⟨_, _, rfl, run_takeDeferred hD7, ?_⟩⟩
      rw [HR.out]
      exact ⟨_, results_tmp rfl _ _ _, fun _ => ⟨rfl, _, h3.1.putO hD7, (HM6.out.trans h3.2).putO (by omega)⟩, fun h => by omega⟩
    · have hf' : (M : Int) < (c : Int) + ((n : Int) + 1 - p) := by omega
      go_wp2
      refine ⟨by simp, .inl ⟨_, _, rfl, run_takeDeferred HDq.out, ?_⟩⟩
      rw [HR.out]
      exact ⟨_, results_tmp rfl _ _ _, fun h => absurd h hf, fun _ => ⟨rfl, HBq.out.trans (belowK_b (w := w) (Nat.le_refl _) _ D _ _ (by omega) HDq.out rfl rfl)⟩⟩
  case stop =>
    rintro D cc pre V hD hpre h hK
    exact h.elim
/-- Put. -/
theorem putC (t : Nat) (v : Value) (W M : Nat) (L : List En) (ar k : Nat) (n vv : Int) (w : World) (h : Tr w t v W M L ar) (hW : W ≤ 32) (hM : M ≤ 1048576) (hk : k < 4294967296) :
    Calls Try.prog 19 #[.pointer (some ⟨t, 0, none⟩), .int .u32 (k : Int), .int .i64 n, .int .i64 vv] w fun e w' => e = .returned (.int .i64 (putE W M L k n vv)) ∧ ∃ v', Tr w' t v' W M (putM W M L k n vv) (putA W M L ar k n vv) ∧ Moved w w' t v v' := by
  cases hm : mayB W k n
  · have e0 : putE W M L k n vv = 120 := by unfold putE; rw [hm]; rfl
    have e1 : putM W M L k n vv = L := by unfold putM; rw [e0]; rfl
    have e2 : putA W M L ar k n vv = ar := by unfold putA; rw [e0]; rfl
    rw [e0, e1, e2]
    refine (put_bad t v W M L ar k n vv w h hW hk hm).mono ?_
    rintro e w' ⟨rfl, hw⟩
    rw [hw]
    exact ⟨rfl, v, h, Moved.of_below (Below.refl _ _)⟩
  · obtain ⟨m, rfl, hmy⟩ := mayB_iff.1 hm
    obtain ⟨A, r, f, c, h1, h2, rfl⟩ := h
    obtain ⟨g1, g2, g3, g4⟩ := h2.grow (x := ⟨k, m, vv⟩) hmy
    dsimp only at g1 g2 g3 g4
    refine (put_may t v W M A r f c L k m vv w h1 h2 hW hM hk hmy).mono ?_
    rintro e w' ⟨p1, p2⟩
    by_cases hf : cntL W 0 none (putL L ⟨k, m, vv⟩) ≤ M
    · have e0 : putE W M L k m vv = 0 := by unfold putE; rw [hm, if_pos rfl]; simp only [Int.toNat_natCast]; rw [if_pos hf]
      have e1 : putM W M L k m vv = putL L ⟨k, m, vv⟩ := by unfold putM; rw [if_pos e0, Int.toNat_natCast]
      have e2 : putA W M L A.length k m vv = max A.length (cntL W 0 none (putL L ⟨k, m, vv⟩)) := by unfold putA; rw [if_pos e0, Int.toNat_natCast]
      obtain ⟨q1, v', q2, q3⟩ := p1 hf
      rw [e0, e1, e2]
      exact ⟨q1, v', ⟨_, _, _, _, q2, g3 (by rw [g2]; exact hf), by rw [g4, g2]⟩, q3⟩
    · have e0 : putE W M L k m vv = 122 := by unfold putE; rw [hm, if_pos rfl]; simp only [Int.toNat_natCast]; rw [if_neg hf]
      have e1 : putM W M L k m vv = L := by unfold putM; rw [e0]; rfl
      have e2 : putA W M L A.length k m vv = A.length := by unfold putA; rw [e0]; rfl
      obtain ⟨q1, q2⟩ := p2 (by omega)
      rw [e0, e1, e2]
      exact ⟨q1, v, ⟨_, _, _, _, h1.on q2, h2, rfl⟩, Moved.of_below q2⟩
end Go.Proofs.Ytfbkjghipahipaa
