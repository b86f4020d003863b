/-
  The iterator that Above hands back.
-/
import Derived.Test.YtfbkjghipahipaaTrS
import Derived.Test.YtfbkjghipahipaaTrTb
namespace Go.Proofs.Ytfbkjghipahipaa
open Go.RowKit Go.Shelf
set_option linter.unusedVariables false
set_option linter.unusedSimpArgs false
attribute [local go_sem] Oper.semAt_some

/-- What Above$1 has captured. -/
def CapA (w : World) (Ct Ck Cn t k : Nat) (n : Int) : Prop := w.heap[Ct]? = some (.cells #[.pointer (some ⟨t, 0, none⟩)] 23) ∧ w.heap[Ck]? = some (.cells #[.int .u32 (k : Int)] 33) ∧ w.heap[Cn]? = some (.cells #[.int .i64 n] 3)
theorem CapA.onP {w w' : World} {P : Nat → Prop} {Ct Ck Cn t k : Nat} {n : Int} (h : CapA w Ct Ck Cn t k n) (hb : Kpt P w w') (h1 : P Ct) (h2 : P Ck) (h3 : P Cn) : CapA w' Ct Ck Cn t k n :=
  ⟨by rw [hb.2 _ h1]; exact h.1, by rw [hb.2 _ h2]; exact h.2.1, by rw [hb.2 _ h3]; exact h.2.2⟩
theorem CapA.on {w w' : World} {Ct Ck Cn t k : Nat} {n : Int} (h : CapA w Ct Ck Cn t k n) (hb : Below w.heap.size w w') : CapA w' Ct Ck Cn t k n := ⟨blk_on h.1 hb, blk_on h.2.1 hb, blk_on h.2.2 hb⟩
def pkX (W : Nat) (A : List Nd) (k : Nat) (x : PX W A) : Option En := pk W A k x.1
theorem pkX_list {W : Nat} {A : List Nd} {k : Nat} {l : List (PX W A)} : l.filterMap (pkX W A k) = (l.map (fun x => x.1)).filterMap (pk W A k) := by
  rw [fm_map]; rfl
theorem pre_fm {α β : Type} (g : α → Option β) {p l : List α} (h : p <+: l) : p.filterMap g <+: l.filterMap g := by
  obtain ⟨r, rfl⟩ := h
  rw [List.filterMap_append]; exact List.prefix_append _ _
/-- What stands while the way is gone: W1 is the world where the loop began. -/
structure AI (P : Nat → Prop) (U : World → Nat → Prop) (J : List En → World → Prop) (W0 W1 : World) (es : List En) (V : World) : Prop where
  j : J es V
  kp : Kpt P W0 V
  bl : ∀ q, W0.heap.size ≤ q → q < W1.heap.size → V.heap[q]? = W1.heap[q]?
  nu : ∀ q, W0.heap.size ≤ q → q < W1.heap.size → ¬ U V q
  ul : ∀ q, U V q → q < V.heap.size
  sz : W1.heap.size ≤ V.heap.size
theorem AI.below {P : Nat → Prop} {U : World → Nat → Prop} {J : List En → World → Prop} {W0 W1 V V' : World} {es : List En} (h : AI P U J W0 W1 es V) (hU : Stab W0.heap.size U) (hJ : OwnFrom W0.heap.size J) (hP : ∀ k, P k → k < W0.heap.size) (h01 : W0.heap.size ≤ W1.heap.size) (hb : Below V.heap.size V V') : AI P U J W0 W1 es V' :=
  have hz := h.sz
  ⟨hJ _ _ _ none h.j (grown_of_below hb) (fun r e => by cases e), kpt_t h.kp (kpt_on hP (by omega) hb), fun q h1 h2 => by rw [hb.block q (by omega)]; exact h.bl q h1 h2,
    fun q h1 h2 e => h.nu q h1 h2 (hU V V' none q (by omega) (grown_of_below hb) (fun r e => by cases e) e),
    rk_lt (RK.below (B := W0.heap.size) hU (by omega) hb) h.ul, Nat.le_trans hz hb.size⟩
theorem AI.round {P : Nat → Prop} {U : World → Nat → Prop} {J : List En → World → Prop} {W0 W1 V V' : World} {es es' : List En} (h : AI P U J W0 W1 es V) (hr : RK W0.heap.size U V V') (hk : Kpt P V V') (hj : J es' V') : AI P U J W0 W1 es' V' :=
  have hz := h.sz
  ⟨hj, kpt_t h.kp hk, fun q h1 h2 => by rw [hr.2.1 q h1 (by omega) (h.nu q h1 h2)]; exact h.bl q h1 h2, fun q h1 h2 e => by
    rcases hr.2.2 q e with a | a
    · exact h.nu q h1 h2 a
    · omega, rk_lt hr h.ul, Nat.le_trans hz hr.1.size⟩
theorem ct_int (W k j : Nat) (hk : k < 4294967296) (hW : W ≤ 32) (hj : j ≤ W) : bits .andNot .u32 (k : Int) ((2 ^ (W - j) - 1 : Nat) : Int) = ((ct W k j : Nat) : Int) := by
  have h1 := pow_le32 (show W - j ≤ 32 by omega)
  have h3 := Nat.two_pow_pos (W - j)
  rw [u32_andNot_nat _ _ hk (by omega), andNot_high _ _ hk (by omega)]
  rfl
set_option maxRecDepth 100000 in
set_option maxHeartbeats 8000000 in
theorem above1_in (m l Ct Ck Cn t : Nat) (P : Nat → Prop) (v : Value) (W M : Nat) (A : List Nd) (r f c : Nat) (L : List En) (k n : Nat) (hi : Inv W M A r f c L) (hW : W ≤ 32) (hM : M ≤ 1048576) (hk : k < 4294967296) (hm : May W k n) (hPt : P t) (hP1 : P Ct) (hP2 : P Ck) (hP3 : P Cn) (hPv : ∀ k, v.ownBlock = some k → P k)
    (U : World → Nat → Prop) (J Jx : List En → World → Prop) (W0 : World) (tl : Tl l P U (n + 1) J Jx W0) (hJx : OwnFrom W0.heap.size Jx) (hUW : ∀ k, U W0 k → k < W0.heap.size)
    (hC : CapA W0 Ct Ck Cn t k n) (hT : Tri W0 t v W M A r f c) (h0 : J [] W0) :
    CallsIn Fence.wide m Try.prog 29 #[.func (.yield l) #[] #[], .pointer (some ⟨Ct, 0, none⟩), .pointer (some ⟨Ck, 0, none⟩), .pointer (some ⟨Cn, 0, none⟩)] W0 fun e W' => (∃ v, e = .returned v) ∧ ((∃ ys, ys = abv W L k n ∧ J ys W') ∨ (∃ pre, pre <+: abv W L k n ∧ Jx pre W')) := by
  have hla := hi.la
  have hval : (pthX W A n W r k 0).map (fun x => x.1) = pth A n W r k 0 := pthX_val (W := W) (d := n) (h := W) (k := k) (n := 0) hi.bd hi.rle (by have := hm.1; omega)
  have habv : (pthX W A n W r k 0).filterMap (pkX W A k) = abv W L k n := by rw [pkX_list, hval, hi.abv hm]
  have hplen : (pthX W A n W r k 0).length ≤ n + 1 := by
    have := congrArg List.length hval
    rw [List.length_map] at this
    rw [this]; exact pth_le A n W r k 0
  have bA : Below W0.heap.size W0 (W0.alloc (.cells #[.func (.yield l) #[] #[]] 62)) := (Below.refl _ _).alloc (Nat.le_refl _) _
  have HTA : Hid (Tri (W0.alloc (.cells #[.func (.yield l) #[] #[]] 62)) t v W M A r f c) := hT.on bA
  have hmy := mayC t W k n _ HTA.out.wid hW hk
  rw [show mayB W k n = true from mayB_iff.2 ⟨n, rfl, hm⟩] at hmy
  have HT : Hid (Tri W0 t v W M A r f c) := hT
  have HC : Hid (CapA W0 Ct Ck Cn t k n) := hC
  have hlt := hT.lt
  have bd := hi.bd
  have hr := hi.rle
  obtain ⟨l1, l2, l3⟩ := And.intro (blk_lt hC.1) (And.intro (blk_lt hC.2.1) (blk_lt hC.2.2))
  have y1 := blk_cell hC.1 (j := 0) rfl
  have y2 := blk_cell hC.2.1 (j := 0) rfl
  have y3 := blk_cell hC.2.2 (j := 0) rfl
  have hne1 : ¬ Ct = W0.heap.size := by omega
  have hne2 : ¬ Ck = W0.heap.size := by omega
  have hne3 : ¬ Cn = W0.heap.size := by omega
  have HJ0 : Hid (J [] W0) := h0
  clear hT hC h0 bA hi
  refine callsIn_wide.2 (callsIn_wide.1 (callsIn_of_wp_marks (n := 9) Try.func29 rfl trivial ?_ rfl))
  simp only [Try.ntmps29, List.size_toArray, List.length_cons, List.length_nil, Nat.reduceAdd, Nat.reduceSub, Array.replicate_succ, Array.replicate_zero, List.push_toArray, List.append_toArray, List.nil_append, List.cons_append]
  refine wpIn_wide.2 ?_
  go_wp2_with (fail)
  refine hmy.mono ?_
  rintro e w' ⟨rfl, hw⟩
  obtain rfl := hw.symm
  clear hw hmy
  go_wp2_with (fail)
  refine (pathC t k (n : Int) _).mono ?_
  rintro e w' ⟨rfl, hw⟩
  have hCp : Cap w' (W0.heap.size + 1) (W0.heap.size + 1 + 1 + 1) (W0.heap.size + 1 + 1) t n k := by rw [hw]; have := cap_new (W0.alloc (.cells #[.func (.yield l) #[] #[]] 62)) t n k; simpa using this
  have hYB : w'.heap[W0.heap.size]? = some (.cells #[.func (.yield l) #[] #[]] 62) := by rw [hw]; exact blk_alloc (blk_alloc (blk_alloc (blk_new W0 _) _) _) _
  have hz0 : w'.heap.size = W0.heap.size + 1 + 1 + 1 + 1 := by rw [hw]; simp
  have hb0 : Below W0.heap.size W0 w' := by
    rw [hw]
    exact ((((Below.refl _ _).alloc (Nat.le_refl _) _).alloc (by simp) _).alloc (by simp; omega) _).alloc (by simp; omega) _
  have hT1 := HT.out.on hb0
  have h1 : AI P U J W0 w' [] w' := ⟨tl.grow HJ0.out hb0, kpt_on tl.plt (Nat.le_refl _) hb0, fun q _ _ => rfl, fun q h1 h2 => not_u tl.stab (Nat.le_refl _) hb0 hUW h1, rk_lt (RK.below (B := W0.heap.size) tl.stab (Nat.le_refl _) hb0) hUW, Nat.le_refl _⟩
  clear hw hb0
  generalize w' = W1 at *
  simp only [World.size_alloc]
  go_wp2_with (fail)
  refine (wpIn_wide (n := 9)).1 ?_
  have hPP : ∀ q, (P q ∨ (W0.heap.size ≤ q ∧ q < W1.heap.size)) → q < W1.heap.size := fun q h => by
    rcases h with h | h
    · have := tl.plt q h; omega
    · exact h.2
  have hU1 : Stab W1.heap.size U := fun A C row q h => tl.stab A C row q (by omega)
  refine path_top 21 22 5 6 U hU1 h1.ul rfl (P := fun q => P q ∨ (W0.heap.size ≤ q ∧ q < W1.heap.size)) hPP (path_seq (W0.heap.size + 1) (W0.heap.size + 1 + 1 + 1) (W0.heap.size + 1 + 1) t _ v W M A r f c n k hW hm.1 hk (by omega) bd hr (.inr (by omega)) (.inr (by omega)) (.inr (by omega)) (.inl hPt) (fun k e => .inl (hPv k e)) W1 hCp hT1)
    (fun pre V => AI P U J W0 W1 (pre.filterMap (pkX W A k)) V) (fun cc pre V => cc = .ret ∧ Jx (pre.filterMap (pkX W A k)) V) ?hI ?hIx ?h0 ?assign ?body ?done ?stop
  case hI =>
    rintro s X Y row h hg hr
    have hzX := h.sz
    refine ⟨tl.own _ _ _ row h.j hg (fun r e => ⟨by have := (hr r e).1; omega, (hr r e).2⟩), kpt_t h.kp ⟨hg.size, fun q hq => hg.block q (by have := tl.plt q hq; omega) (fun e => by have := (hr q e.symm).1; have := tl.plt q hq; omega)⟩, fun q h1 h2 => by rw [hg.block q (by omega) (fun e => by have := (hr q e.symm).1; omega)]; exact h.bl q h1 h2, fun q h1 h2 e => h.nu q h1 h2 (tl.stab X Y row q (by omega) hg (fun r e => (hr r e).2) e), fun q e => by have := h.ul q (tl.stab X Y row q (by omega) hg (fun r e => (hr r e).2) e); have := hg.size; omega, Nat.le_trans hzX hg.size⟩
  case hIx =>
    rintro cc s X Y row ⟨rfl, h⟩ hg hr
    exact ⟨rfl, hJx _ _ _ row h hg (fun r e => ⟨by have := (hr r e).1; omega, (hr r e).2⟩)⟩
  case h0 => exact h1
  case assign =>
    intro l x V K hK
    simp only [List.setIfInBounds_toArray, List.set_cons_succ, List.set_cons_zero] at hK ⊢
    gi_wp2
    exact hK
  case body =>
    rintro l2 pre x V hl hr2 hz hI hN
    simp only [List.setIfInBounds_toArray, List.set_cons_succ, List.set_cons_zero]
    obtain ⟨⟨j, p⟩, hj1, hj2, hj3⟩ := x
    dsimp only at hj1 hj2 hj3 ⊢
    have HTV : Hid (Tri V t v W M A r f c) := HT.out.onP hI.kp hPt hPv
    have HCV : Hid (CapA V Ct Ck Cn t k n) := HC.out.onP hI.kp hP1 hP2 hP3
    have HYV : Hid (V.heap[W0.heap.size]? = some (.cells #[.func (.yield l) #[] #[]] 62)) := by show _ = _; rw [hI.bl _ (Nat.le_refl _) (by omega)]; exact hYB
    have hnd := nodeC t v W M A r f c p V HTV.out (by omega) hj2 hj3
    obtain ⟨d0, hd0⟩ : ∃ d0, d0 = gt A p := ⟨_, rfl⟩
    rw [← hd0] at hnd
    have HE : Hid (∀ es, (pre ++ [(⟨(j, p), hj1, hj2, hj3⟩ : PX W A)]).filterMap (pkX W A k) = es ↔ pre.filterMap (pkX W A k) ++ (if d0.h then [(⟨ct W k j, j, d0.v⟩ : En)] else []) = es) := fun es => by
      rw [List.filterMap_append]
      unfold pkX pk
      simp only [List.filterMap_cons, List.filterMap_nil]
      rw [← hd0]
      cases d0.h <;> simp
    have hAI : Hid (AI P U J W0 W1 (pre.filterMap (pkX W A k)) V) := hI
    have hpl : (pre.filterMap (pkX W A k)).length < n + 1 := by have := List.length_filterMap_le (pkX W A k) pre; omega
    have hGo : ∀ a V', RK W0.heap.size U V V' → Kpt P V V' → AI P U J W0 W1 (pre.filterMap (pkX W A k) ++ (if d0.h then [(⟨ct W k j, j, d0.v⟩ : En)] else [])) V' → ownPostU W1.heap.size U (Kpt fun q => P q ∨ (W0.heap.size ≤ q ∧ q < W1.heap.size)) (fun (pre : List (PX W A)) V => AI P U J W0 W1 (pre.filterMap (pkX W A k)) V) (fun cc pre V => cc = .ret ∧ Jx (pre.filterMap (pkX W A k)) V) (pre ++ [⟨(j, p), hj1, hj2, hj3⟩]) V .normal a V' := fun a V' q1 q2 q3 =>
      ⟨q1.mono (by omega), ⟨q1.1.size, fun q hq => by
        rcases hq with hq | hq
        · exact q2.2 q hq
        · exact q1.2.1 q hq.1 (by omega) (hAI.out.nu q hq.1 hq.2)⟩, by dsimp only; rw [(HE.out _).2 rfl]; exact q3⟩
    have hRo : ∀ a V', RK W0.heap.size U V V' → Jx (pre.filterMap (pkX W A k) ++ (if d0.h then [(⟨ct W k j, j, d0.v⟩ : En)] else [])) V' → ownPostU W1.heap.size U (Kpt fun q => P q ∨ (W0.heap.size ≤ q ∧ q < W1.heap.size)) (fun (pre : List (PX W A)) V => AI P U J W0 W1 (pre.filterMap (pkX W A k)) V) (fun cc pre V => cc = .ret ∧ Jx (pre.filterMap (pkX W A k)) V) (pre ++ [⟨(j, p), hj1, hj2, hj3⟩]) V .ret a V' := fun a V' q1 q3 =>
      ⟨q1.mono (by omega), rfl, by rw [(HE.out _).2 rfl]; exact q3⟩
    generalize hQ2 : ownPostU _ _ _ _ _ _ _ = Q2 at hGo hRo ⊢
    generalize pre.filterMap (pkX W A k) = es at *
    clear hQ2 hI hr2 hl hN HE hd0 hYB hCp hT1 h1 hz y1 y2 y3
    obtain ⟨y1, y2, y3⟩ := And.intro (blk_cell HCV.out.1 (j := 0) rfl) (And.intro (blk_cell HCV.out.2.1 (j := 0) rfl) (blk_cell HCV.out.2.2 (j := 0) rfl))
    have y4 := blk_cell HYV.out (j := 0) rfl
    have hzV := hAI.out.sz
    obtain ⟨da, db, dh, dv⟩ := d0
    dsimp only at hnd hGo hRo
    cases dh
    · gi_wp2_with (refine ⟨trivial, ?_⟩; gi_at_call 32; refine (CallsIn.inRound l2 (callsIn_wide.2 hnd)).mono ?_; rintro e V1 ⟨rfl, hb1⟩)
      have bA : Below V1.heap.size V1 (V1.alloc (.cells #[.int .i64 (da : Int), .int .i64 (db : Int), .bool false, .int .i64 dv] 70)) := (Below.refl _ _).alloc (Nat.le_refl _) _
      have HB2 : Hid (Below V.heap.size V (V1.alloc (.cells #[.int .i64 (da : Int), .int .i64 (db : Int), .bool false, .int .i64 dv] 70))) := hb1.trans (bA.mono hb1.size)
      have HX2 := blk_new V1 (.cells #[.int .i64 (da : Int), .int .i64 (db : Int), .bool false, .int .i64 dv] 70)
      generalize V1.alloc (.cells #[.int .i64 (da : Int), .int .i64 (db : Int), .bool false, .int .i64 dv] 70) = V3 at *
      generalize V1.heap.size = XB at *
      clear hb1 bA hnd
      obtain ⟨x0, x1, x2, x3⟩ := blk4 HX2
      have hxl := blk_lt HX2
      have kne : Nonempty (Kin V3) := ⟨⟨_, Below.refl _ _⟩⟩
      have kc0 : ∀ y : Kin V3, y.val.cell? ⟨XB, 2, none⟩ = some (.bool false) := fun y => by rw [kin_cell hxl]; exact x2
      refine wpIn_region_kinR V3 (Below.refl _ _) (by kernel_rfl) (by kernel_rfl) (by kernel_rfl) ?_
      repeat (go_big_quiet_step (fail))
      refine wpQuiet_nil ?_
      rintro wq ⟨⟨xq, hxq⟩, hyq⟩
      have hq : Below V3.heap.size V3 wq := by rw [hyq]; exact hxq
      have hbq : Below V.heap.size V wq := HB2.out.trans (hq.mono HB2.out.size)
      have hG := fun a => hGo a wq (RK.below tl.stab (by omega) hbq) (kpt_on tl.plt (by omega) hbq) (by rw [if_neg (by simp), List.append_nil]; exact hAI.out.below tl.stab tl.own tl.plt (by omega) hbq)
      clear hyq hxq xq kne kc0 hq hbq hGo hRo HB2 HX2 x0 x1 x2 x3
      gi_wp2
      exact hG _
    · have hby : ∀ V', Below V.heap.size V V' → Calls Try.prog 33 #[.pointer (some ⟨t, 0, none⟩), .int .i64 (j : Int)] V' fun e w' => e = .returned (.int .u32 ((2 ^ (W - j) - 1 : Nat) : Int)) ∧ w' = V' := fun V' hb => beyondC t W j V' (HTV.out.on hb).wid (by omega) hW
      have hct := ct_int W k j hk hW hj1
      gi_wp2_with (refine ⟨trivial, ?_⟩; gi_at_call 32; refine (CallsIn.inRound l2 (callsIn_wide.2 hnd)).mono ?_; rintro e V1 ⟨rfl, hb1⟩)
      have bA : Below V1.heap.size V1 (V1.alloc (.cells #[.int .i64 (da : Int), .int .i64 (db : Int), .bool true, .int .i64 dv] 70)) := (Below.refl _ _).alloc (Nat.le_refl _) _
      have HB2 : Hid (Below V.heap.size V (V1.alloc (.cells #[.int .i64 (da : Int), .int .i64 (db : Int), .bool true, .int .i64 dv] 70))) := hb1.trans (bA.mono hb1.size)
      have HX2 := blk_new V1 (.cells #[.int .i64 (da : Int), .int .i64 (db : Int), .bool true, .int .i64 dv] 70)
      generalize V1.alloc (.cells #[.int .i64 (da : Int), .int .i64 (db : Int), .bool true, .int .i64 dv] 70) = V3 at *
      generalize V1.heap.size = XB at *
      clear hb1 bA hnd
      have HC3 := HCV.out.on HB2.out
      have HY3 := blk_on HYV.out HB2.out
      obtain ⟨x0, x1, x2, x3⟩ := blk4 HX2
      have hxl := blk_lt HX2
      have kne : Nonempty (Kin V3) := ⟨⟨_, Below.refl _ _⟩⟩
      have kc0 : ∀ y : Kin V3, y.val.cell? ⟨XB, 2, none⟩ = some (.bool true) := fun y => by rw [kin_cell hxl]; exact x2
      have kc1 : ∀ y : Kin V3, y.val.cell? ⟨XB, 3, none⟩ = some (.int .i64 dv) := fun y => by rw [kin_cell hxl]; exact x3
      have kc2 : ∀ y : Kin V3, y.val.cell? ⟨Ct, 0, none⟩ = some (.pointer (some ⟨t, 0, none⟩)) := fun y => by rw [kin_cell (blk_lt HC3.1)]; exact blk_cell HC3.1 rfl
      have kc3 : ∀ y : Kin V3, y.val.cell? ⟨Ck, 0, none⟩ = some (.int .u32 (k : Int)) := fun y => by rw [kin_cell (blk_lt HC3.2.1)]; exact blk_cell HC3.2.1 rfl
      have kc4 : ∀ y : Kin V3, y.val.cell? ⟨W0.heap.size, 0, none⟩ = some (.func (.yield l) #[] #[]) := fun y => by rw [kin_cell (blk_lt HY3)]; exact blk_cell HY3 rfl
      have hby3 : ∀ y : Kin V3, Calls Try.prog 33 #[.pointer (some ⟨t, 0, none⟩), .int .i64 (j : Int)] y.val fun e w' => e = .returned (.int .u32 ((2 ^ (W - j) - 1 : Nat) : Int)) ∧ w' = y.val := fun y => hby y.val (HB2.out.trans (y.is.mono HB2.out.size))
      obtain ⟨cj, hcj⟩ : ∃ cj, cj = ct W k j := ⟨_, rfl⟩
      rw [← hcj] at hct hGo hRo
      have Hcj : Hid (cj = ct W k j) := hcj
      generalize (2 ^ (W - j) - 1 : Nat) = Y at hby3 hct
      clear hby HC3 HY3 HX2 hcj x0 x1 x2 x3 y1 y2 y3 y4
      refine wpIn_region_pre (m := 13) (tn := 3) V3 (Below.refl _ _) (by kernel_rfl) (by kernel_rfl) rfl (by kernel_rfl) (by kernel_rfl) (by kernel_rfl) (by kernel_rfl) ?_
      simp only [List.take_succ_cons, List.take_zero]
      repeat (go_big_quiet_step (first | (go_at_call 33; exact kin_same (hby3 _))))
      refine wpQuiet_nil ?_
      rintro wq ⟨⟨xq, hxq⟩, hyq⟩
      have hq : Below V3.heap.size V3 wq := by rw [hyq]; exact hxq
      have hBd : Below V.heap.size V wq := HB2.out.trans (hq.mono HB2.out.size)
      clear hyq hxq xq kne kc0 kc1 kc2 kc3 kc4 hby3 hq
      have hA3 := hAI.out.below tl.stab tl.own tl.plt (by omega) hBd
      have hz3 : W0.heap.size ≤ wq.heap.size := by have := hA3.sz; omega
      obtain ⟨fn, tmps, assign, body, hy, hR⟩ := tl.yld 6 es ⟨cj, j, dv⟩ wq hA3.j hpl hz3
      dsimp only [encY] at hy
      have hR2 : RoundIn Fence.wide 6 Try.prog l fn tmps assign body wq (fun e V' => ∃ b, e = .returned (.bool b) ∧ Hid (RK W0.heap.size U V V' ∧ ((b = true ∧ AI P U J W0 W1 (es ++ [(⟨cj, j, dv⟩ : En)]) V' ∧ Kpt P V V') ∨ (b = false ∧ Jx (es ++ [(⟨cj, j, dv⟩ : En)]) V')))) := hR.mono (by
        rintro e V' ⟨hrk, ⟨rfl, a1, a2⟩ | ⟨rfl, a1⟩⟩
        · exact ⟨true, rfl, (RK.below tl.stab (by omega) hBd).trans hrk, .inl ⟨rfl, hA3.round hrk a2 a1, kpt_t (kpt_on tl.plt (by omega) hBd) a2⟩⟩
        · exact ⟨false, rfl, (RK.below tl.stab (by omega) hBd).trans hrk, .inr ⟨rfl, a1⟩⟩)
      clear hR hA3 hBd
      refine any_one (i := 13) (by kernel_rfl) (op_in rfl rfl (fun K' hK' => ?_))
      gi_wp2_with (fail)
      refine RoundIn.mono (F := Fence.wide.inRound l2) hR2 ?_
      rintro e V4 ⟨b, rfl, h4⟩
      clear hR2 hy
      refine hK' _ _ ?_
      refine any_one (i := 14) (by kernel_rfl) (op_in rfl rfl (fun K2 hK2 => ?_))
      gi_wp2_with (fail)
      refine any_one (i := 15) (by kernel_rfl) (op_in rfl rfl (fun K3 hK3 => ?_))
      gi_wp2_with (fail)
      refine ⟨by kernel_rfl, ?_⟩
      obtain ⟨hrk, ⟨rfl, a1, a2⟩ | ⟨rfl, a1⟩⟩ := h4.out
      · have hG := fun a => hGo a V4 hrk a2 (by rw [if_pos trivial]; exact a1)
        clear hGo hRo a1 a2 hrk h4
        gi_wp2
        exact hG _
      · have hG := fun a => hRo a V4 hrk (by rw [if_pos trivial]; exact a1)
        clear hGo hRo a1 hrk h4
        gi_wp2
        exact hG _
  case done =>
    rintro D xs V hD rfl hI hK
    have HF : Hid (J (abv W L k n) V) := by rw [← habv]; exact hI.j
    have HDV : Hid (V.heap[D]? = some (.deferred (some []))) := hK
    clear hI hK
    go_wp2
    refine ⟨by simp, .inl ⟨_, _, rfl, run_takeDeferred HDV.out, ?_⟩⟩
    exact ⟨_, results_none rfl _ _ _, ⟨_, rfl⟩, .inl ⟨_, rfl, tl.own.putObj _ HF.out (by omega) HDV.out rfl⟩⟩
  case stop =>
    rintro D cc pre V hD hpre ⟨rfl, h⟩ hK
    refine wpIn_wide.2 ?_
    go_wp2
    refine ⟨by simp, .inl ⟨_, _, rfl, run_takeDeferred hK, ?_⟩⟩
    exact ⟨_, results_none rfl _ _ _, ⟨_, rfl⟩, .inr ⟨_, by rw [← habv]; exact pre_fm _ hpre, hJx.putObj _ h (by omega) hK rfl⟩⟩
set_option maxHeartbeats 2000000 in
theorem above1_no (m l Ct Ck Cn t k : Nat) (n : Int) (P : Nat → Prop) (W : Nat) (hW : W ≤ 32) (hk : k < 4294967296) (hm : mayB W k n = false) (N : Nat) (U : World → Nat → Prop) (J Jx : List En → World → Prop) (W0 : World) (tl : Tl l P U N J Jx W0)
    (hC : CapA W0 Ct Ck Cn t k n) (hT : Wid W0 t W) (h0 : J [] W0) :
    CallsIn Fence.wide m Try.prog 29 #[.func (.yield l) #[] #[], .pointer (some ⟨Ct, 0, none⟩), .pointer (some ⟨Ck, 0, none⟩), .pointer (some ⟨Cn, 0, none⟩)] W0 fun e W' => (∃ v, e = .returned v) ∧ ((∃ ys, ys = ([] : List En) ∧ J ys W') ∨ (∃ pre, pre <+: ([] : List En) ∧ Jx pre W')) := by
  have bA : Below W0.heap.size W0 (W0.alloc (.cells #[.func (.yield l) #[] #[]] 62)) := (Below.refl _ _).alloc (Nat.le_refl _) _
  have hmy := mayC t W k n (W0.alloc (.cells #[.func (.yield l) #[] #[]] 62)) (cell_on1 bA hT) hW hk
  rw [hm] at hmy
  have HJ := tl.grow h0 bA
  have HJ' : Hid (J [] (W0.alloc (.cells #[.func (.yield l) #[] #[]] 62))) := HJ
  obtain ⟨l1, l2, l3⟩ := And.intro (blk_lt hC.1) (And.intro (blk_lt hC.2.1) (blk_lt hC.2.2))
  have y1 := blk_cell hC.1 (j := 0) rfl
  have y2 := blk_cell hC.2.1 (j := 0) rfl
  have y3 := blk_cell hC.2.2 (j := 0) rfl
  have hne1 : ¬ Ct = W0.heap.size := by omega
  have hne2 : ¬ Ck = W0.heap.size := by omega
  have hne3 : ¬ Cn = W0.heap.size := by omega
  clear bA HJ h0 hC hT
  refine callsIn_of_wp Try.func29 rfl trivial ?_ rfl
  simp only [Try.ntmps29, List.size_toArray, List.length_cons, List.length_nil, Nat.reduceAdd, Nat.reduceSub, Array.replicate_succ, Array.replicate_zero, List.push_toArray, List.append_toArray, List.nil_append, List.cons_append]
  gi_wp2_with (fail)
  refine ⟨trivial, fun h => (by simp [Fence.wide] at h), (callsIn_wide.2 hmy).mono ?_⟩
  rintro e w' ⟨rfl, hw⟩
  obtain rfl := hw.symm
  clear hw hmy
  gi_wp2_with (fail)
  refine bodyPost_ret (results_none rfl _ _ _) rfl ?_
  exact ⟨⟨_, rfl⟩, .inl ⟨[], rfl, HJ'.out⟩⟩
theorem above1_nil (m l Ct Ck Cn k : Nat) (n : Int) (P : Nat → Prop) (N : Nat) (U : World → Nat → Prop) (J Jx : List En → World → Prop) (W0 : World) (tl : Tl l P U N J Jx W0)
    (hC : W0.heap[Ct]? = some (.cells #[.pointer none] 23)) (h0 : J [] W0) :
    CallsIn Fence.wide m Try.prog 29 #[.func (.yield l) #[] #[], .pointer (some ⟨Ct, 0, none⟩), .pointer (some ⟨Ck, 0, none⟩), .pointer (some ⟨Cn, 0, none⟩)] W0 fun e W' => (∃ v, e = .returned v) ∧ ((∃ ys, ys = ([] : List En) ∧ J ys W') ∨ (∃ pre, pre <+: ([] : List En) ∧ Jx pre W')) := by
  have bA : Below W0.heap.size W0 (W0.alloc (.cells #[.func (.yield l) #[] #[]] 62)) := (Below.refl _ _).alloc (Nat.le_refl _) _
  have HJ : Hid (J [] (W0.alloc (.cells #[.func (.yield l) #[] #[]] 62))) := tl.grow h0 bA
  have l1 := blk_lt hC
  have y1 := blk_cell hC (j := 0) rfl
  have hne1 : ¬ Ct = W0.heap.size := by omega
  clear bA h0 hC
  refine callsIn_of_wp Try.func29 rfl trivial ?_ rfl
  simp only [Try.ntmps29, List.size_toArray, List.length_cons, List.length_nil, Nat.reduceAdd, Nat.reduceSub, Array.replicate_succ, Array.replicate_zero, List.push_toArray, List.append_toArray, List.nil_append, List.cons_append]
  gi_wp2_with (fail)
  all_goals first | (refine ⟨trivial, ?_⟩; gi_wp2_with (fail)) | skip
  refine bodyPost_ret (results_none rfl _ _ _) rfl ?_
  exact ⟨⟨_, rfl⟩, .inl ⟨[], rfl, HJ.out⟩⟩
theorem walk1_nil (m l Bt : Nat) (P : Nat → Prop) (N : Nat) (U : World → Nat → Prop) (J Jx : List En → World → Prop) (W0 : World) (tl : Tl l P U N J Jx W0)
    (hC : W0.heap[Bt]? = some (.cells #[.pointer none] 23)) (h0 : J [] W0) :
    CallsIn Fence.wide m Try.prog 27 #[.func (.yield l) #[] #[], .pointer (some ⟨Bt, 0, none⟩)] W0 fun e W' => (∃ v, e = .returned v) ∧ ((∃ ys, ys = ([] : List En) ∧ J ys W') ∨ (∃ pre, pre <+: ([] : List En) ∧ Jx pre W')) := by
  have HJ : Hid (J [] W0) := h0
  have y1 := blk_cell hC (j := 0) rfl
  clear h0 hC
  refine callsIn_of_wp Try.func27 rfl trivial ?_ rfl
  simp only [Try.ntmps27, List.size_toArray, List.length_cons, List.length_nil, Nat.reduceAdd, Nat.reduceSub, Array.replicate_succ, Array.replicate_zero, List.push_toArray, List.append_toArray, List.nil_append, List.cons_append]
  gi_wp2_with (fail)
  go_end0
  exact ⟨⟨_, rfl⟩, .inl ⟨[], rfl, HJ.out⟩⟩
/-- An iterator of entries: D is what it tells. -/
def Itr (g : Nat) (lb : Array Value) (P : Nat → Prop) (D : List En) (w : World) : Prop :=
  (∀ args w, (callFunc g args).run Try.prog w = .ok (.enter g args) w) ∧ (∀ k, P k → k < w.heap.size) ∧ ∃ N, D.length ≤ N ∧ N ≤ 1048577 ∧ SeqX Fence.wide Try.prog g lb encY (Kpt P) (fun ys => ys = D) (fun pre => pre <+: D) N w
theorem Itr.later {g : Nat} {lb : Array Value} {P : Nat → Prop} {D : List En} {w w' : World} (h : Itr g lb P D w) (hb : Below w.heap.size w w') : Itr g lb P D w' := by
  obtain ⟨h1, h2, N, h3, h4, h5⟩ := h
  exact ⟨h1, fun k hk => Nat.lt_of_lt_of_le (h2 k hk) hb.size, N, h3, h4, h5.later hb⟩
/-- What Above tells. -/
def abvD (W : Nat) (L : List En) (k : Nat) (n : Int) : List En := if mayB W k n then abv W L k n.toNat else []
theorem abv_len (W : Nat) (L : List En) (k n : Nat) : (abv W L k n).length ≤ n + 1 := by
  unfold abv
  have := List.length_filterMap_le (fun j => (val L (ct W k j) j).map (fun v => (⟨ct W k j, j, v⟩ : En))) (List.range (n + 1))
  simpa using this
theorem itr_above (t : Nat) (v : Value) (W M : Nat) (L : List En) (ar k : Nat) (n : Int) (Ct Ck Cn : Nat) (P : Nat → Prop) (w : World) (hT : Tr w t v W M L ar) (hW : W ≤ 32) (hM : M ≤ 1048576) (hk : k < 4294967296) (hC : CapA w Ct Ck Cn t k n) (hP : ∀ k, P k → k < w.heap.size) (hPt : P t) (hP1 : P Ct) (hP2 : P Ck) (hP3 : P Cn) (hPv : ∀ k, v.ownBlock = some k → P k) :
    Itr 29 #[.pointer (some ⟨Ct, 0, none⟩), .pointer (some ⟨Ck, 0, none⟩), .pointer (some ⟨Cn, 0, none⟩)] P (abvD W L k n) w := by
  obtain ⟨A, r, f, c, h1, h2, rfl⟩ := hT
  refine ⟨enters_of Try.func29 (by kernel_rfl) rfl, hP, ?_⟩
  unfold abvD
  cases hm : mayB W k n
  · refine ⟨0, by simp, by omega, fun l m U J Jx V hV hl hU hUV hJ hJx hY h0 => ?_⟩
    exact above1_no m l Ct Ck Cn t k n P W hW hk hm 0 U J Jx V ⟨hU, hJ, fun q hq => Nat.lt_of_lt_of_le (hP q hq) hV.size, hY⟩ (hC.on hV) (h1.on hV).wid h0
  · obtain ⟨q, rfl, hmy⟩ := mayB_iff.1 hm
    rw [if_pos rfl, Int.toNat_natCast]
    refine ⟨q + 1, abv_len W L k q, by have := hmy.1; omega, fun l m U J Jx V hV hl hU hUV hJ hJx hY h0 => ?_⟩
    exact above1_in m l Ct Ck Cn t P v W M A r f c L k q h2 hW hM hk hmy hPt hP1 hP2 hP3 hPv U J Jx V ⟨hU, hJ, fun q hq => Nat.lt_of_lt_of_le (hP q hq) hV.size, hY⟩ hJx hUV (hC.on hV) (h1.on hV) h0
theorem Inv.len {W M : Nat} {A : List Nd} {r f c : Nat} {L : List En} (i : Inv W M A r f c L) : L.length ≤ c := by
  have : ∀ (h r key : Nat), okT A h r → (tel W A h r key).length ≤ num A h r := by
    intro h
    induction h with
    | zero =>
      intro r key o
      simp only [tel, num]
      split
      · simp
      · unfold ownE; split <;> simp
    | succ h ih =>
      intro r key o
      simp only [tel, num]
      by_cases r0 : r = 0
      · simp [r0]
      · rw [if_neg r0, if_neg r0]
        simp only [okT] at o
        rcases o with o | ⟨_, o2, o3, _⟩
        · omega
        · have h1 := ih _ key o2
          have h2 := ih _ (key + 2 ^ h) o3
          have h3 : (ownE (gt A r) key (W - (h + 1))).length ≤ 1 := by unfold ownE; split <;> simp
          simp only [List.length_append]; omega
  rw [i.cn, ← i.tl]; exact this W r 0 i.ok
theorem itr_walk (t : Nat) (v : Value) (W M : Nat) (L : List En) (ar Bt : Nat) (P : Nat → Prop) (w : World) (hT : Tr w t v W M L ar) (hW : W ≤ 32) (hM : M ≤ 1048576) (hC : w.heap[Bt]? = some (.cells #[.pointer (some ⟨t, 0, none⟩)] 23)) (hP : ∀ k, P k → k < w.heap.size) (hPt : P t) (hP1 : P Bt) (hPv : ∀ k, v.ownBlock = some k → P k) :
    Itr 27 #[.pointer (some ⟨Bt, 0, none⟩)] P L w := by
  obtain ⟨A, r, f, c, h1, h2, rfl⟩ := hT
  refine ⟨enters_of Try.func27 (by kernel_rfl) rfl, hP, L.length, Nat.le_refl _, by have := h2.len; have := h2.le; omega, fun l m U J Jx V hV hl hU hUV hJ hJx hY h0 => ?_⟩
  exact walk1_in m l Bt t P v W M A r f c L h2 hW hM hPt hP1 hPv U J Jx V ⟨hU, hJ, fun q hq => Nat.lt_of_lt_of_le (hP q hq) hV.size, hY⟩ hUV (blk_on hC hV) (h1.on hV) h0
theorem itr_above_nil (Ct Ck Cn k : Nat) (n : Int) (w : World) (hC : w.heap[Ct]? = some (.cells #[.pointer none] 23)) : Itr 29 #[.pointer (some ⟨Ct, 0, none⟩), .pointer (some ⟨Ck, 0, none⟩), .pointer (some ⟨Cn, 0, none⟩)] (fun _ => False) [] w := by
  refine ⟨enters_of Try.func29 (by kernel_rfl) rfl, fun _ h => h.elim, 0, by simp, by omega, fun l m U J Jx V hV hl hU hUV hJ hJx hY h0 => ?_⟩
  exact above1_nil m l Ct Ck Cn k n (fun _ => False) 0 U J Jx V ⟨hU, hJ, fun q hq => hq.elim, hY⟩ (blk_on hC hV) h0
theorem itr_walk_nil (Bt : Nat) (w : World) (hC : w.heap[Bt]? = some (.cells #[.pointer none] 23)) : Itr 27 #[.pointer (some ⟨Bt, 0, none⟩)] (fun _ => False) [] w := by
  refine ⟨enters_of Try.func27 (by kernel_rfl) rfl, fun _ h => h.elim, 0, by simp, by omega, fun l m U J Jx V hV hl hU hUV hJ hJx hY h0 => ?_⟩
  exact walk1_nil m l Bt (fun _ => False) 0 U J Jx V ⟨hU, hJ, fun q hq => hq.elim, hY⟩ (blk_on hC hV) h0
end Go.Proofs.Ytfbkjghipahipaa
