/-
  Less of the document's answer. Written by tools/mkBxRl.py.
-/
import Derived.Test.YthggiblkehcfaaaBxZ
import Derived.Test.YthggiblkehcfaaaBxRm
import Derived.Test.YthggiblkehcfaaaMkE
import Derived.Deep.DeepCutAuto
import Derived.Deep.CutRange
namespace Go.Proofs.Ythggiblkehcfaaa
open Go.RowKit
set_option linter.unusedVariables false
set_option linter.unusedSimpArgs false

/-- What the walk through Less holds: the two boxes, what they share (block Q), the box that is cut (block Q + 1), the list behind them. -/
structure LS (w wx : World) (Q : Nat) (X Y M Z : Bx) (pv : Value) (l : List Bx) : Prop where
  hX : wx.heap[w.heap.size]? = some (.cells #[.int .u32 (X.a.1 : Int), .int .u32 (X.a.2 : Int), .int .u32 (X.b.1 : Int), .int .u32 (X.b.2 : Int), .int .u16 (X.c.1 : Int), .int .u16 (X.c.2 : Int), .int .u16 (X.d.1 : Int), .int .u16 (X.d.2 : Int), .int .u8 (X.m.1 : Int), .int .u8 (X.m.2 : Int)] 33)
  hY : wx.heap[w.heap.size + 1]? = some (.cells #[.int .u32 (Y.a.1 : Int), .int .u32 (Y.a.2 : Int), .int .u32 (Y.b.1 : Int), .int .u32 (Y.b.2 : Int), .int .u16 (Y.c.1 : Int), .int .u16 (Y.c.2 : Int), .int .u16 (Y.d.1 : Int), .int .u16 (Y.d.2 : Int), .int .u8 (Y.m.1 : Int), .int .u8 (Y.m.2 : Int)] 33)
  hM : wx.heap[Q]? = some (.cells #[.int .u32 (M.a.1 : Int), .int .u32 (M.a.2 : Int), .int .u32 (M.b.1 : Int), .int .u32 (M.b.2 : Int), .int .u16 (M.c.1 : Int), .int .u16 (M.c.2 : Int), .int .u16 (M.d.1 : Int), .int .u16 (M.d.2 : Int), .int .u8 (M.m.1 : Int), .int .u8 (M.m.2 : Int)] 33)
  hZ : wx.heap[Q + 1]? = some (.cells #[.int .u32 (Z.a.1 : Int), .int .u32 (Z.a.2 : Int), .int .u32 (Z.b.1 : Int), .int .u32 (Z.b.2 : Int), .int .u16 (Z.c.1 : Int), .int .u16 (Z.c.2 : Int), .int .u16 (Z.d.1 : Int), .int .u16 (Z.d.2 : Int), .int .u8 (Z.m.1 : Int), .int .u8 (Z.m.2 : Int)] 33)
  hr : RowX wx (Q + 1 + 1) pv l
  hb : Below w.heap.size w wx
theorem LS.put {w wx wy : World} {Q : Nat} {X Y M Z Z' : Bx} {pv : Value} {l : List Bx} (h : LS w wx Q X Y M Z pv l) (hQ : w.heap.size + 1 < Q) (hz : wy.heap[Q + 1]? = some (.cells #[.int .u32 ((Z').a.1 : Int), .int .u32 ((Z').a.2 : Int), .int .u32 ((Z').b.1 : Int), .int .u32 ((Z').b.2 : Int), .int .u16 ((Z').c.1 : Int), .int .u16 ((Z').c.2 : Int), .int .u16 ((Z').d.1 : Int), .int .u16 ((Z').d.2 : Int), .int .u8 ((Z').m.1 : Int), .int .u8 ((Z').m.2 : Int)] 33)) (ho : Only (Q + 1) wx wy) : LS w wy Q X Y M Z' pv l :=
  ⟨by rw [ho.block _ (by omega)]; exact h.hX, by rw [ho.block _ (by omega)]; exact h.hY, by rw [ho.block _ (by omega)]; exact h.hM, hz, h.hr.k1 (K1.of_only ho) (by omega), h.hb.trans (ho.below (by omega))⟩
theorem LS.app {w wx wy : World} {Q : Nat} {X Y M Z : Bx} {pv pv' : Value} {l l' : List Bx} {o : Obj} (h : LS w wx Q X Y M Z pv l) (hQ : w.heap.size + 1 < Q) (hr : RowX wy (Q + 1 + 1) pv' l') (hg : (wx.alloc o).grownBy wy pv.ownBlock) : LS w wy Q X Y M Z pv' l' := by
  have hn : ∀ k, k < Q + 1 + 1 → some k ≠ pv.ownBlock := fun k hk e => by have := (h.hr.lt k e.symm).1; omega
  have hs := h.hb.size
  refine ⟨blk_grown hg (blk_alloc h.hX _) (hn _ (by omega)), blk_grown hg (blk_alloc h.hY _) (hn _ (by omega)), blk_grown hg (blk_alloc h.hM _) (hn _ (by omega)), blk_grown hg (blk_alloc h.hZ _) (hn _ (by omega)), hr, ?_⟩
  exact (h.hb.alloc hs _).grown hg (by simp; omega) (fun j hj => by have := (h.hr.lt j hj).1; omega)
theorem LS.on {w wx wy : World} {Q : Nat} {X Y M Z : Bx} {pv : Value} {l : List Bx} (h : LS w wx Q X Y M Z pv l) (hb : Below wx.heap.size wx wy) : LS w wy Q X Y M Z pv l :=
  ⟨blk_on h.hX hb, blk_on h.hY hb, blk_on h.hM hb, blk_on h.hZ hb, h.hr.on hb, h.hb.trans (hb.mono h.hb.size)⟩
/-- A row of masks is no block of boxes. -/
theorem rowM_only {w w' : World} {c B : Nat} {u : Value} {lm : List (Nat × Nat)} {cs : Array Value} {fr : Nat × Nat} (h : Row w c u lm) (ho : Only B w w') (hB : w.heap[B]? = some (.cells cs 33 fr)) : Row w' c u lm := by
  refine ⟨h.1, ?_⟩
  rcases h.2 with h2 | ⟨g, cap, cur, hv, hg, hh, r⟩
  · exact .inl h2
  · refine .inr ⟨g, cap, cur, hv, hg, ?_, r⟩
    rw [ho.block g (fun e => by subst e; rw [hB] at hh; simp at hh)]; exact hh
theorem rowM_grown {w w' : World} {c b : Nat} {u v : Value} {lm : List (Nat × Nat)} {l : List Bx} (h : Row w c u lm) (hr : RowX w b v l) (hg : w.grownBy w' v.ownBlock) : Row w' c u lm := by
  refine ⟨h.1, ?_⟩
  rcases h.2 with h2 | ⟨g, cap, cur, hv, hgb, hh, r⟩
  · exact .inl h2
  · refine .inr ⟨g, cap, cur, hv, hgb, ?_, r⟩
    refine blk_grown hg hh (fun e => ?_)
    rcases hr.2 with ⟨hv2, _⟩ | ⟨g2, cap2, cur2, hv2, hb2, hh2, r2⟩
    · rw [hv2] at e; cases e
    · rw [hv2] at e
      have : g = g2 := by simpa [Value.ownBlock] using e
      subst this
      rw [hh2] at hh
      simp at hh
theorem LS.drew {w wx : World} {Q : Nat} {X Y M Z : Bx} {pv : Value} {l : List Bx} (h : LS w wx Q X Y M Z pv l) : LS w wx.drew Q X Y M Z pv l := ⟨h.hX, h.hY, h.hM, h.hZ, h.hr, h.hb.drew⟩
set_option maxRecDepth 20000 in
set_option maxHeartbeats 8000000 in
theorem rlessX (X Y : Bx) (w : World) (bX : BdX X) (bY : BdX Y) : Calls Try.prog 24 #[.agg #[.int .u32 (X.a.1 : Int), .int .u32 (X.a.2 : Int), .int .u32 (X.b.1 : Int), .int .u32 (X.b.2 : Int), .int .u16 (X.c.1 : Int), .int .u16 (X.c.2 : Int), .int .u16 (X.d.1 : Int), .int .u16 (X.d.2 : Int), .int .u8 (X.m.1 : Int), .int .u8 (X.m.2 : Int)], .agg #[.int .u32 (Y.a.1 : Int), .int .u32 (Y.a.2 : Int), .int .u32 (Y.b.1 : Int), .int .u32 (Y.b.2 : Int), .int .u16 (Y.c.1 : Int), .int .u16 (Y.c.2 : Int), .int .u16 (Y.d.1 : Int), .int .u16 (Y.d.2 : Int), .int .u8 (Y.m.1 : Int), .int .u8 (Y.m.2 : Int)]] w fun e w' => ∃ v' : Value, e = .returned v' ∧ RowX w' w.heap.size v' (lessX X Y) ∧ Below w.heap.size w w' := by
  have hC1 := fun W => rcheckX X W bX
  have hC2 := fun W => rcheckX Y W bY
  have hM := fun W => rmeetX X Y W bX bY
  have HBX : Hid (BdX X) := bX
  have HBY : Hid (BdX Y) := bY
  clear bX bY
  cases hx : okX X
  · have hn : ¬ chkX X = 0 := fun e => by rw [chkX_ok, hx] at e; cases e
    have hd : decide (chkX X = 0) = false := decide_eq_false hn
    have HE : Hid (lessX X Y = []) := by show _ = _; unfold lessX; rw [hx]; rfl
    generalize chkX X = cc at *
    clear hx hC2 hM
    go_enter Try.func24, Try.ntmps24
    go_wp2_with (fail)
    refine (hC1 _).mono ?_
    rintro e w1 ⟨rfl, hb1⟩
    go_wp2_with (fail)
    go_ret
    exact ⟨_, rfl, by rw [HE.out]; exact RowX.nil _ _, by (repeat (first | assumption | exact Below.refl _ _ | refine Below.drew ?_ | refine bel_drewN ?_ _ | refine Below.setCell ?_ (by first | omega | (simp; done) | (simp; omega)) _ | refine Below.alloc ?_ (by first | omega | (simp; done) | (simp; omega)) _ | refine bel_of ?_ (by assumption)))⟩
  · rw [chkX_ok.2 hx] at hC1
    cases hy : okX Y
    · have hn : ¬ chkX Y = 0 := fun e => by rw [chkX_ok, hy] at e; cases e
      have hd : decide (chkX Y = 0) = false := decide_eq_false hn
      have HE : Hid (lessX X Y = []) := by show _ = _; unfold lessX; rw [hx, hy]; rfl
      generalize chkX Y = cc at *
      clear hx hy hM
      go_enter Try.func24, Try.ntmps24
      go_wp2_with (fail)
      refine (hC1 _).mono ?_
      rintro e w1 ⟨rfl, hb1⟩
      have hY1 : w1.heap[w.heap.size + 1]? = some (.cells #[.int .u32 (Y.a.1 : Int), .int .u32 (Y.a.2 : Int), .int .u32 (Y.b.1 : Int), .int .u32 (Y.b.2 : Int), .int .u16 (Y.c.1 : Int), .int .u16 (Y.c.2 : Int), .int .u16 (Y.d.1 : Int), .int .u16 (Y.d.2 : Int), .int .u8 (Y.m.1 : Int), .int .u8 (Y.m.2 : Int)] 33) := blk_on (by simpa using blk_new (w.alloc (.cells #[.int .u32 (X.a.1 : Int), .int .u32 (X.a.2 : Int), .int .u32 (X.b.1 : Int), .int .u32 (X.b.2 : Int), .int .u16 (X.c.1 : Int), .int .u16 (X.c.2 : Int), .int .u16 (X.d.1 : Int), .int .u16 (X.d.2 : Int), .int .u8 (X.m.1 : Int), .int .u8 (X.m.2 : Int)] 33)) (.cells #[.int .u32 (Y.a.1 : Int), .int .u32 (Y.a.2 : Int), .int .u32 (Y.b.1 : Int), .int .u32 (Y.b.2 : Int), .int .u16 (Y.c.1 : Int), .int .u16 (Y.c.2 : Int), .int .u16 (Y.d.1 : Int), .int .u16 (Y.d.2 : Int), .int .u8 (Y.m.1 : Int), .int .u8 (Y.m.2 : Int)] 33)) hb1
      obtain ⟨c0, c1, c2, c3, c4, c5, c6, c7, c8, c9⟩ := blk10 hY1
      have hbl : Hid (Below w.heap.size w w1) := by show Below _ _ _; (repeat (first | assumption | exact Below.refl _ _ | refine Below.drew ?_ | refine bel_drewN ?_ _ | refine Below.setCell ?_ (by first | omega | (simp; done) | (simp; omega)) _ | refine Below.alloc ?_ (by first | omega | (simp; done) | (simp; omega)) _ | refine bel_of ?_ (by assumption)))
      clear hb1 hY1 hC1
      go_wp2_with (fail)
      refine (hC2 _).mono ?_
      rintro e w2 ⟨rfl, hb2⟩
      have hbl2 : Hid (Below w.heap.size w w2) := hbl.out.trans (hb2.mono hbl.out.size)
      clear hb2 hC2
      go_wp2_with (fail)
      go_ret
      exact ⟨_, rfl, by rw [HE.out]; exact RowX.nil _ _, hbl2.out⟩
    · rw [chkX_ok.2 hy] at hC2
      have HE0 : Hid (lessX X Y = if bothX X Y then lessB X Y else [X]) := by show _ = _; unfold lessX; rw [hx, hy]; rfl
      clear hx hy
      go_enter Try.func24, Try.ntmps24
      go_wp2_with (fail)
      refine (hC1 _).mono ?_
      rintro e w1 ⟨rfl, hb1⟩
      have hX1 := blk_on (blk_alloc (blk_new w (.cells #[.int .u32 (X.a.1 : Int), .int .u32 (X.a.2 : Int), .int .u32 (X.b.1 : Int), .int .u32 (X.b.2 : Int), .int .u16 (X.c.1 : Int), .int .u16 (X.c.2 : Int), .int .u16 (X.d.1 : Int), .int .u16 (X.d.2 : Int), .int .u8 (X.m.1 : Int), .int .u8 (X.m.2 : Int)] 33)) (.cells #[.int .u32 (Y.a.1 : Int), .int .u32 (Y.a.2 : Int), .int .u32 (Y.b.1 : Int), .int .u32 (Y.b.2 : Int), .int .u16 (Y.c.1 : Int), .int .u16 (Y.c.2 : Int), .int .u16 (Y.d.1 : Int), .int .u16 (Y.d.2 : Int), .int .u8 (Y.m.1 : Int), .int .u8 (Y.m.2 : Int)] 33)) hb1
      have hY1 : w1.heap[w.heap.size + 1]? = some (.cells #[.int .u32 (Y.a.1 : Int), .int .u32 (Y.a.2 : Int), .int .u32 (Y.b.1 : Int), .int .u32 (Y.b.2 : Int), .int .u16 (Y.c.1 : Int), .int .u16 (Y.c.2 : Int), .int .u16 (Y.d.1 : Int), .int .u16 (Y.d.2 : Int), .int .u8 (Y.m.1 : Int), .int .u8 (Y.m.2 : Int)] 33) := blk_on (by simpa using blk_new (w.alloc (.cells #[.int .u32 (X.a.1 : Int), .int .u32 (X.a.2 : Int), .int .u32 (X.b.1 : Int), .int .u32 (X.b.2 : Int), .int .u16 (X.c.1 : Int), .int .u16 (X.c.2 : Int), .int .u16 (X.d.1 : Int), .int .u16 (X.d.2 : Int), .int .u8 (X.m.1 : Int), .int .u8 (X.m.2 : Int)] 33)) (.cells #[.int .u32 (Y.a.1 : Int), .int .u32 (Y.a.2 : Int), .int .u32 (Y.b.1 : Int), .int .u32 (Y.b.2 : Int), .int .u16 (Y.c.1 : Int), .int .u16 (Y.c.2 : Int), .int .u16 (Y.d.1 : Int), .int .u16 (Y.d.2 : Int), .int .u8 (Y.m.1 : Int), .int .u8 (Y.m.2 : Int)] 33)) hb1
      obtain ⟨c0, c1, c2, c3, c4, c5, c6, c7, c8, c9⟩ := blk10 hY1
      have HX1 : Hid (w1.heap[w.heap.size]? = some (.cells #[.int .u32 (X.a.1 : Int), .int .u32 (X.a.2 : Int), .int .u32 (X.b.1 : Int), .int .u32 (X.b.2 : Int), .int .u16 (X.c.1 : Int), .int .u16 (X.c.2 : Int), .int .u16 (X.d.1 : Int), .int .u16 (X.d.2 : Int), .int .u8 (X.m.1 : Int), .int .u8 (X.m.2 : Int)] 33)) := hX1
      have HY1 : Hid (w1.heap[w.heap.size + 1]? = some (.cells #[.int .u32 (Y.a.1 : Int), .int .u32 (Y.a.2 : Int), .int .u32 (Y.b.1 : Int), .int .u32 (Y.b.2 : Int), .int .u16 (Y.c.1 : Int), .int .u16 (Y.c.2 : Int), .int .u16 (Y.d.1 : Int), .int .u16 (Y.d.2 : Int), .int .u8 (Y.m.1 : Int), .int .u8 (Y.m.2 : Int)] 33)) := hY1
      have hbl : Hid (Below w.heap.size w w1) := by show Below _ _ _; (repeat (first | assumption | exact Below.refl _ _ | refine Below.drew ?_ | refine bel_drewN ?_ _ | refine Below.setCell ?_ (by first | omega | (simp; done) | (simp; omega)) _ | refine Below.alloc ?_ (by first | omega | (simp; done) | (simp; omega)) _ | refine bel_of ?_ (by assumption)))
      clear hb1 hY1 hX1 hC1
      go_wp2_with (fail)
      refine (hC2 _).mono ?_
      rintro e w2 ⟨rfl, hb2⟩
      have HX2 : Hid (w2.heap[w.heap.size]? = some (.cells #[.int .u32 (X.a.1 : Int), .int .u32 (X.a.2 : Int), .int .u32 (X.b.1 : Int), .int .u32 (X.b.2 : Int), .int .u16 (X.c.1 : Int), .int .u16 (X.c.2 : Int), .int .u16 (X.d.1 : Int), .int .u16 (X.d.2 : Int), .int .u8 (X.m.1 : Int), .int .u8 (X.m.2 : Int)] 33)) := blk_on HX1.out hb2
      have HY2 : Hid (w2.heap[w.heap.size + 1]? = some (.cells #[.int .u32 (Y.a.1 : Int), .int .u32 (Y.a.2 : Int), .int .u32 (Y.b.1 : Int), .int .u32 (Y.b.2 : Int), .int .u16 (Y.c.1 : Int), .int .u16 (Y.c.2 : Int), .int .u16 (Y.d.1 : Int), .int .u16 (Y.d.2 : Int), .int .u8 (Y.m.1 : Int), .int .u8 (Y.m.2 : Int)] 33)) := blk_on HY1.out hb2
      have hbl2 : Hid (Below w.heap.size w w2) := hbl.out.trans (hb2.mono hbl.out.size)
      clear hb2 hC2 c0 c1 c2 c3 c4 c5 c6 c7 c8 c9 HX1 HY1 hbl
      obtain ⟨c0, c1, c2, c3, c4, c5, c6, c7, c8, c9⟩ := blk10 HX2.out
      obtain ⟨d0, d1, d2, d3, d4, d5, d6, d7, d8, d9⟩ := blk10 HY2.out
      go_wp2_with (fail)
      refine (hM _).mono ?_
      rintro e w3 ⟨rfl, hb3⟩
      have HX3 : Hid (w3.heap[w.heap.size]? = some (.cells #[.int .u32 (X.a.1 : Int), .int .u32 (X.a.2 : Int), .int .u32 (X.b.1 : Int), .int .u32 (X.b.2 : Int), .int .u16 (X.c.1 : Int), .int .u16 (X.c.2 : Int), .int .u16 (X.d.1 : Int), .int .u16 (X.d.2 : Int), .int .u8 (X.m.1 : Int), .int .u8 (X.m.2 : Int)] 33)) := blk_on HX2.out hb3
      have HY3 : Hid (w3.heap[w.heap.size + 1]? = some (.cells #[.int .u32 (Y.a.1 : Int), .int .u32 (Y.a.2 : Int), .int .u32 (Y.b.1 : Int), .int .u32 (Y.b.2 : Int), .int .u16 (Y.c.1 : Int), .int .u16 (Y.c.2 : Int), .int .u16 (Y.d.1 : Int), .int .u16 (Y.d.2 : Int), .int .u8 (Y.m.1 : Int), .int .u8 (Y.m.2 : Int)] 33)) := blk_on HY2.out hb3
      have hbl3 : Hid (Below w.heap.size w w3) := hbl2.out.trans (hb3.mono hbl2.out.size)
      clear hb3 hM c0 c1 c2 c3 c4 c5 c6 c7 c8 c9 d0 d1 d2 d3 d4 d5 d6 d7 d8 d9 HX2 HY2 hbl2
      obtain ⟨c0, c1, c2, c3, c4, c5, c6, c7, c8, c9⟩ := blk10 HX3.out
      have hlt3 := blk_lt HY3.out
      have hlt3' : w.heap.size < w3.heap.size := by omega
      have n3 : ¬ w.heap.size = w3.heap.size := by omega
      generalize hMe : meetX X Y = M at *
      have HMe : Hid (meetX X Y = M) := hMe
      clear hMe
      cases hb : bothX X Y
      · have HE : Hid (lessX X Y = [X]) := by show _ = _; rw [HE0.out, hb]; rfl
        clear hb HE0
        go_wp2_with (fail)
        go_ret
        exact ⟨_, rfl, by rw [HE.out]; have e := RowX.one (w3.alloc (.cells #[.int .u32 (M.a.1 : Int), .int .u32 (M.a.2 : Int), .int .u32 (M.b.1 : Int), .int .u32 (M.b.2 : Int), .int .u16 (M.c.1 : Int), .int .u16 (M.c.2 : Int), .int .u16 (M.d.1 : Int), .int .u16 (M.d.2 : Int), .int .u8 (M.m.1 : Int), .int .u8 (M.m.2 : Int)] 33)) w.heap.size X (by simp; omega); rw [World.size_alloc] at e; exact e, (hbl3.out.alloc (by omega) _).alloc (by simp; omega) _⟩
      · have HE : Hid (lessX X Y = lessB X Y) := by show _ = _; rw [HE0.out, hb]; rfl
        have HMB : Hid (M = meetB X Y) := by show _ = _; rw [← HMe.out]; unfold meetX; rw [hb]; rfl
        clear hb HE0
        have H0 : Hid (LS w ((w3.alloc (.cells #[.int .u32 (M.a.1 : Int), .int .u32 (M.a.2 : Int), .int .u32 (M.b.1 : Int), .int .u32 (M.b.2 : Int), .int .u16 (M.c.1 : Int), .int .u16 (M.c.2 : Int), .int .u16 (M.d.1 : Int), .int .u16 (M.d.2 : Int), .int .u8 (M.m.1 : Int), .int .u8 (M.m.2 : Int)] 33)).alloc (.cells #[.int .u32 (X.a.1 : Int), .int .u32 (X.a.2 : Int), .int .u32 (X.b.1 : Int), .int .u32 (X.b.2 : Int), .int .u16 (X.c.1 : Int), .int .u16 (X.c.2 : Int), .int .u16 (X.d.1 : Int), .int .u16 (X.d.2 : Int), .int .u8 (X.m.1 : Int), .int .u8 (X.m.2 : Int)] 33)) w3.heap.size X Y M X (.slice none 0 0) []) := ⟨blk_alloc (blk_alloc HX3.out _) _, blk_alloc (blk_alloc HY3.out _) _, blk_alloc (blk_new w3 _) _, (by simpa using blk_new (w3.alloc (.cells #[.int .u32 (M.a.1 : Int), .int .u32 (M.a.2 : Int), .int .u32 (M.b.1 : Int), .int .u32 (M.b.2 : Int), .int .u16 (M.c.1 : Int), .int .u16 (M.c.2 : Int), .int .u16 (M.d.1 : Int), .int .u16 (M.d.2 : Int), .int .u8 (M.m.1 : Int), .int .u8 (M.m.2 : Int)] 33)) (.cells #[.int .u32 (X.a.1 : Int), .int .u32 (X.a.2 : Int), .int .u32 (X.b.1 : Int), .int .u32 (X.b.2 : Int), .int .u16 (X.c.1 : Int), .int .u16 (X.c.2 : Int), .int .u16 (X.d.1 : Int), .int .u16 (X.d.2 : Int), .int .u8 (X.m.1 : Int), .int .u8 (X.m.2 : Int)] 33)), RowX.nil _ _, (hbl3.out.alloc (by omega) _).alloc (by simp; omega) _⟩
        go_upto_if 36 with (fail)
        obtain ⟨Q, hQ⟩ : ∃ Q, Q = w3.heap.size := ⟨_, rfl⟩
        have hQl : w.heap.size + 1 < Q := by omega
        rw [← hQ] at H0 ⊢
        generalize ((w3.alloc (.cells #[.int .u32 (M.a.1 : Int), .int .u32 (M.a.2 : Int), .int .u32 (M.b.1 : Int), .int .u32 (M.b.2 : Int), .int .u16 (M.c.1 : Int), .int .u16 (M.c.2 : Int), .int .u16 (M.d.1 : Int), .int .u16 (M.d.2 : Int), .int .u8 (M.m.1 : Int), .int .u8 (M.m.2 : Int)] 33)).alloc (.cells #[.int .u32 (X.a.1 : Int), .int .u32 (X.a.2 : Int), .int .u32 (X.b.1 : Int), .int .u32 (X.b.2 : Int), .int .u16 (X.c.1 : Int), .int .u16 (X.c.2 : Int), .int .u16 (X.d.1 : Int), .int .u16 (X.d.2 : Int), .int .u8 (X.m.1 : Int), .int .u8 (X.m.2 : Int)] 33)) = W0 at *
        clear hQ c0 c1 c2 c3 c4 c5 c6 c7 c8 c9 hlt3 hlt3' n3 HX3 HY3 hbl3
        obtain ⟨Z, hZ⟩ : ∃ Z, Z = X := ⟨_, rfl⟩
        obtain ⟨l, hl⟩ : ∃ l : List Bx, l = [] := ⟨_, rfl⟩
        have HZ : Hid (Z = mtK X Y 0) := hZ
        have HL : Hid (l = lsK X Y 0) := hl
        have H : Hid (LS w W0 Q X Y M Z (.slice none 0 0) l) := by rw [hZ, hl]; exact H0.out
        clear hZ hl H0
        obtain ⟨c0, c1, c2, c3, c4, c5, c6, c7, c8, c9⟩ := blk10 H.out.hX
        obtain ⟨m0, m1, m2, m3, m4, m5, m6, m7, m8, m9⟩ := blk10 H.out.hM
        have hMf : M.a = meetI X.a Y.a := by rw [HMB.out]; rfl
        have hM1 : Hid (M.a.1 < 4294967296) := by show _ < _; have b1 := meetB_bd HBX.out HBY.out; rw [← HMB.out] at b1; exact b1.1
        have hX2 : Hid (X.a.2 < 4294967296) := HBX.out.2.1
        have HMf : Hid (M.a = meetI X.a Y.a) := hMf
        have HLEN : Hid (l.length ≤ 32) := by show _ ≤ _; rw [HL.out]; exact Nat.le_trans (lsK_len X Y 0) (by decide)
        clear hMf
        go_cut [7] from 36 to 49 (fun pv wx => ∃ s : Nat × Nat, Hid (LS w wx Q X Y M (putA Z s) pv (l ++ (belI X.a Y.a).map (putA Z))))
        case first =>
          by_cases h1 : X.a.1 < M.a.1
          · have h1' : (X.a.1 : Int) < (M.a.1 : Int) := by omega
            have hd : decide (X.a.1 < M.a.1) = true := decide_eq_true h1
            have HB1 : Hid ((1 : Int) ≤ (M.a.1 : Int) ∧ (M.a.1 : Int) < 4294967296) := (by have := hM1.out; have := hX2.out; exact ⟨by omega, by omega⟩)
            obtain ⟨E, hE⟩ : ∃ E, E = M.a.1 - 1 := ⟨_, rfl⟩
            have HP : Hid ((M.a.1 : Int) - 1 = (E : Int)) := by show _ = _; omega
            have HLst : Hid (belI X.a Y.a = [(X.a.1, E)]) := by show _ = _; unfold belI; rw [← HMf.out, if_pos h1, hE]
            clear hE
            have HLE : Hid (l.length ≤ 40) := by show _ ≤ _; have := HLEN.out; omega
            clear h1
            go_upto_region 9 with (fail)
            obtain ⟨hp1, hp2⟩ := HB1.out
            go_wp2_with (first | (refine wpList_store_blk rfl 27 (.tmp 45) (.tmp 44) rfl (Q + 1) 0 #[.int .u32 (X.a.1 : Int), .int .u32 ((M.a.1 : Int) - 1 : Int)] #[.int .u32 (X.a.1 : Int), .int .u32 ((M.a.1 : Int) - 1 : Int), .int .u32 (Z.b.1 : Int), .int .u32 (Z.b.2 : Int), .int .u16 (Z.c.1 : Int), .int .u16 (Z.c.2 : Int), .int .u16 (Z.d.1 : Int), .int .u16 (Z.d.2 : Int), .int .u8 (Z.m.1 : Int), .int .u8 (Z.m.2 : Int)] rfl rfl 33 _ H.out.hZ (Nat.le_of_ble_eq_true rfl) rfl (by kernel_rfl) rfl ?_; intro w4 h4 ho4; rw [HP.out] at h4; have hl4 := blk_lt h4; have H4 : Hid (LS w w4 Q X Y M (putA Z (X.a.1, E)) _ l) := H.out.put hQl h4 ho4; obtain ⟨z0, z1, z2, z3, z4, z5, z6, z7, z8, z9⟩ := blk10 h4; clear h4 ho4 c0 c1 c2 c3 c4 c5 c6 c7 c8 c9 m0 m1 m2 m3 m4 m5 m6 m7 m8 m9) | (at_builtin; refine wpList_appendX rfl (.tmp 46) (.tmp 48) rfl (Q + 1 + 1) _ l rfl (H4.out.hr.alloc _) (Q + 1 + 1) _ [putA Z (X.a.1, E)] rfl (RowX.one w4 (Q + 1 + 1) (putA Z (X.a.1, E)) (by omega)) (by simp; omega) (by have := HLE.out; simp only [List.length_cons, List.length_nil]; omega) ?_; intro v5 w5 hrow5 hgr5))
            go_meet
            case rel => exact ⟨(X.a.1, E), by show LS _ _ _ _ _ _ _ _ _; rw [HLst.out]; exact H4.out.app hQl hrow5 hgr5⟩
          · have h1' : ¬ (X.a.1 : Int) < (M.a.1 : Int) := by omega
            have hd : decide (X.a.1 < M.a.1) = false := decide_eq_false h1
            have HLst : Hid (belI X.a Y.a = []) := by show _ = _; unfold belI; rw [← HMf.out, if_neg h1]
            clear h1
            go_wp2_with (fail)
            go_meet
            case rel => exact ⟨Z.a, by show LS _ _ _ _ _ _ _ _ _; rw [HLst.out, List.map_nil, List.append_nil]; exact H.out⟩
        case rest =>
          obtain ⟨s, H1⟩ := hcut
          clear c0 c1 c2 c3 c4 c5 c6 c7 c8 c9 m0 m1 m2 m3 m4 m5 m6 m7 m8 m9 H
          obtain ⟨c0, c1, c2, c3, c4, c5, c6, c7, c8, c9⟩ := blk10 H1.out.hX
          obtain ⟨m0, m1, m2, m3, m4, m5, m6, m7, m8, m9⟩ := blk10 H1.out.hM
          go_upto_if 56 with (fail)
          go_cut [7] from 56 to 69 (fun pv wx => ∃ s : Nat × Nat, Hid (LS w wx Q X Y M (putA Z s) pv (l ++ (belI X.a Y.a).map (putA Z) ++ (aboI X.a Y.a).map (putA Z))))
          case first =>
            by_cases h1 : M.a.2 < X.a.2
            · have h1' : (M.a.2 : Int) < (X.a.2 : Int) := by omega
              have hd : decide (M.a.2 < X.a.2) = true := decide_eq_true h1
              have HB1 : Hid ((0 : Int) ≤ (M.a.2 : Int) ∧ (M.a.2 : Int) + 1 < 4294967296) := (by have := hM1.out; have := hX2.out; exact ⟨by omega, by omega⟩)
              obtain ⟨E, hE⟩ : ∃ E, E = M.a.2 + 1 := ⟨_, rfl⟩
              have HP : Hid ((M.a.2 : Int) + 1 = (E : Int)) := by show _ = _; omega
              have HLst : Hid (aboI X.a Y.a = [(E, X.a.2)]) := by show _ = _; unfold aboI; rw [← HMf.out, if_pos h1, hE]
              clear hE
              have HLE : Hid ((l ++ (belI X.a Y.a).map (putA Z)).length ≤ 40) := by show _ ≤ _; have := HLEN.out; have hb2 := cutI_len X.a Y.a; unfold cutI at hb2; rw [List.length_append] at hb2; rw [List.length_append, List.length_map]; omega
              clear h1
              go_upto_region 12 with (fail)
              obtain ⟨hp1, hp2⟩ := HB1.out
              go_wp2_with (first | (refine wpList_store_blk rfl 27 (.tmp 65) (.tmp 64) rfl (Q + 1) 0 #[.int .u32 ((M.a.2 : Int) + 1 : Int), .int .u32 (X.a.2 : Int)] #[.int .u32 ((M.a.2 : Int) + 1 : Int), .int .u32 (X.a.2 : Int), .int .u32 (Z.b.1 : Int), .int .u32 (Z.b.2 : Int), .int .u16 (Z.c.1 : Int), .int .u16 (Z.c.2 : Int), .int .u16 (Z.d.1 : Int), .int .u16 (Z.d.2 : Int), .int .u8 (Z.m.1 : Int), .int .u8 (Z.m.2 : Int)] rfl rfl 33 _ H1.out.hZ (Nat.le_of_ble_eq_true rfl) rfl (by kernel_rfl) rfl ?_; intro w4 h4 ho4; rw [HP.out] at h4; have hl4 := blk_lt h4; have H4 : Hid (LS w w4 Q X Y M (putA Z (E, X.a.2)) _ (l ++ (belI X.a Y.a).map (putA Z))) := H1.out.put hQl h4 ho4; obtain ⟨z0, z1, z2, z3, z4, z5, z6, z7, z8, z9⟩ := blk10 h4; clear h4 ho4 c0 c1 c2 c3 c4 c5 c6 c7 c8 c9 m0 m1 m2 m3 m4 m5 m6 m7 m8 m9) | (at_builtin; refine wpList_appendX rfl (.tmp 66) (.tmp 68) rfl (Q + 1 + 1) _ (l ++ (belI X.a Y.a).map (putA Z)) rfl (H4.out.hr.alloc _) (Q + 1 + 1) _ [putA Z (E, X.a.2)] rfl (RowX.one w4 (Q + 1 + 1) (putA Z (E, X.a.2)) (by omega)) (by simp; omega) (by have := HLE.out; simp only [List.length_cons, List.length_nil]; omega) ?_; intro v5 w5 hrow5 hgr5))
              go_meet
              case rel => exact ⟨(E, X.a.2), by show LS _ _ _ _ _ _ _ _ _; rw [HLst.out]; exact H4.out.app hQl hrow5 hgr5⟩
            · have h1' : ¬ (M.a.2 : Int) < (X.a.2 : Int) := by omega
              have hd : decide (M.a.2 < X.a.2) = false := decide_eq_false h1
              have HLst : Hid (aboI X.a Y.a = []) := by show _ = _; unfold aboI; rw [← HMf.out, if_neg h1]
              clear h1
              go_wp2_with (fail)
              go_meet
              case rel => exact ⟨s, by show LS _ _ _ _ _ _ _ _ _; rw [HLst.out, List.map_nil, List.append_nil]; exact H1.out⟩
          case rest =>
            obtain ⟨t, H2⟩ := hcut
            clear c0 c1 c2 c3 c4 c5 c6 c7 c8 c9 m0 m1 m2 m3 m4 m5 m6 m7 m8 m9 H1
            obtain ⟨c0, c1, c2, c3, c4, c5, c6, c7, c8, c9⟩ := blk10 H2.out.hX
            obtain ⟨m0, m1, m2, m3, m4, m5, m6, m7, m8, m9⟩ := blk10 H2.out.hM
            obtain ⟨Z', hZ'⟩ : ∃ Z', Z' = putA Z M.a := ⟨_, rfl⟩
            obtain ⟨l', hl'⟩ : ∃ l', l' = (l ++ (belI X.a Y.a).map (putA Z) ++ (aboI X.a Y.a).map (putA Z)) := ⟨_, rfl⟩
            have HZ' : Hid (Z' = mtK X Y 1) := by show _ = _; rw [hZ', HMf.out, HZ.out]; rfl
            have HL' : Hid (l' = lsK X Y 1) := by
              show _ = _
              have e : Z.a = X.a := by rw [HZ.out]; rfl
              rw [hl', HL.out, List.append_assoc, ← List.map_append]
              show _ ++ (cutI X.a Y.a).map (putA Z) = lsK X Y 0 ++ lsS (mtK X Y 0) Y 0
              rw [← HZ.out, ← e]
              rfl
            have HZe : Hid (Z' = putA Z M.a) := hZ'
            rw [← hl'] at H2
            clear hZ' hl'
            go_upto_if 79 with ((refine wpList_store_blk rfl 27 (.tmp 72) (.tmp 71) rfl (Q + 1) 0 #[.int .u32 (M.a.1 : Int), .int .u32 (M.a.2 : Int)] #[.int .u32 (M.a.1 : Int), .int .u32 (M.a.2 : Int), .int .u32 (Z.b.1 : Int), .int .u32 (Z.b.2 : Int), .int .u16 (Z.c.1 : Int), .int .u16 (Z.c.2 : Int), .int .u16 (Z.d.1 : Int), .int .u16 (Z.d.2 : Int), .int .u8 (Z.m.1 : Int), .int .u8 (Z.m.2 : Int)] rfl rfl 33 _ H2.out.hZ (Nat.le_of_ble_eq_true rfl) rfl (by kernel_rfl) rfl ?_; intro w6 h6 ho6; have H6 : Hid (LS w w6 Q X Y M Z' _ l') := (by show LS _ _ _ _ _ _ _ _ _; rw [HZe.out]; exact H2.out.put hQl h6 ho6); clear h6 ho6 c0 c1 c2 c3 c4 c5 c6 c7 c8 c9 m0 m1 m2 m3 m4 m5 m6 m7 m8 m9 H2; obtain ⟨c0, c1, c2, c3, c4, c5, c6, c7, c8, c9⟩ := blk10 H6.out.hX; obtain ⟨m0, m1, m2, m3, m4, m5, m6, m7, m8, m9⟩ := blk10 H6.out.hM; obtain ⟨y0, y1, y2, y3, y4, y5, y6, y7, y8, y9⟩ := blk10 H6.out.hY))
            have HZ2 : Hid (Z' = mtK X Y 1) := HZ'.out
            have HL2 : Hid (l' = lsK X Y 1) := HL'.out
            clear HZ HL HZe HMf HLEN hM1 hX2 HZ' HL'
            have H : Hid (LS w _ Q X Y M Z' _ l') := H6.out
            clear H6
            clear s t
            have HZ : Hid (Z' = mtK X Y 1) := HZ2.out
            have HL : Hid (l' = lsK X Y 1) := HL2.out
            clear HZ2 HL2 Z l
            obtain ⟨Z, eZ⟩ : ∃ Z, Z = Z' := ⟨_, rfl⟩
            obtain ⟨l, el⟩ : ∃ l, l = l' := ⟨_, rfl⟩
            subst eZ el
            have hMf : M.b = meetI X.b Y.b := by rw [HMB.out]; rfl
            have hM1 : Hid (M.b.1 < 4294967296) := by show _ < _; have b1 := meetB_bd HBX.out HBY.out; rw [← HMB.out] at b1; exact b1.2.2.1
            have hX2 : Hid (X.b.2 < 4294967296) := HBX.out.2.2.2.1
            have HMf : Hid (M.b = meetI X.b Y.b) := hMf
            have HLEN : Hid (l.length ≤ 32) := by show _ ≤ _; rw [HL.out]; exact Nat.le_trans (lsK_len X Y 1) (by decide)
            clear hMf
            go_cut [7] from 79 to 92 (fun pv wx => ∃ s : Nat × Nat, Hid (LS w wx Q X Y M (putB Z s) pv (l ++ (belI X.b Y.b).map (putB Z))))
            case first =>
              by_cases h1 : X.b.1 < M.b.1
              · have h1' : (X.b.1 : Int) < (M.b.1 : Int) := by omega
                have hd : decide (X.b.1 < M.b.1) = true := decide_eq_true h1
                have HB1 : Hid ((1 : Int) ≤ (M.b.1 : Int) ∧ (M.b.1 : Int) < 4294967296) := (by have := hM1.out; have := hX2.out; exact ⟨by omega, by omega⟩)
                obtain ⟨E, hE⟩ : ∃ E, E = M.b.1 - 1 := ⟨_, rfl⟩
                have HP : Hid ((M.b.1 : Int) - 1 = (E : Int)) := by show _ = _; omega
                have HLst : Hid (belI X.b Y.b = [(X.b.1, E)]) := by show _ = _; unfold belI; rw [← HMf.out, if_pos h1, hE]
                clear hE
                have HLE : Hid (l.length ≤ 40) := by show _ ≤ _; have := HLEN.out; omega
                clear h1
                go_upto_region 16 with (fail)
                obtain ⟨hp1, hp2⟩ := HB1.out
                go_wp2_with (first | (refine wpList_store_blk rfl 27 (.tmp 88) (.tmp 87) rfl (Q + 1) 2 #[.int .u32 (X.b.1 : Int), .int .u32 ((M.b.1 : Int) - 1 : Int)] #[.int .u32 (Z.a.1 : Int), .int .u32 (Z.a.2 : Int), .int .u32 (X.b.1 : Int), .int .u32 ((M.b.1 : Int) - 1 : Int), .int .u16 (Z.c.1 : Int), .int .u16 (Z.c.2 : Int), .int .u16 (Z.d.1 : Int), .int .u16 (Z.d.2 : Int), .int .u8 (Z.m.1 : Int), .int .u8 (Z.m.2 : Int)] rfl rfl 33 _ H.out.hZ (Nat.le_of_ble_eq_true rfl) rfl (by kernel_rfl) rfl ?_; intro w4 h4 ho4; rw [HP.out] at h4; have hl4 := blk_lt h4; have H4 : Hid (LS w w4 Q X Y M (putB Z (X.b.1, E)) _ l) := H.out.put hQl h4 ho4; obtain ⟨z0, z1, z2, z3, z4, z5, z6, z7, z8, z9⟩ := blk10 h4; clear h4 ho4 c0 c1 c2 c3 c4 c5 c6 c7 c8 c9 m0 m1 m2 m3 m4 m5 m6 m7 m8 m9) | (at_builtin; refine wpList_appendX rfl (.tmp 89) (.tmp 91) rfl (Q + 1 + 1) _ l rfl (H4.out.hr.alloc _) (Q + 1 + 1) _ [putB Z (X.b.1, E)] rfl (RowX.one w4 (Q + 1 + 1) (putB Z (X.b.1, E)) (by omega)) (by simp; omega) (by have := HLE.out; simp only [List.length_cons, List.length_nil]; omega) ?_; intro v5 w5 hrow5 hgr5))
                go_meet
                case rel => exact ⟨(X.b.1, E), by show LS _ _ _ _ _ _ _ _ _; rw [HLst.out]; exact H4.out.app hQl hrow5 hgr5⟩
              · have h1' : ¬ (X.b.1 : Int) < (M.b.1 : Int) := by omega
                have hd : decide (X.b.1 < M.b.1) = false := decide_eq_false h1
                have HLst : Hid (belI X.b Y.b = []) := by show _ = _; unfold belI; rw [← HMf.out, if_neg h1]
                clear h1
                go_wp2_with (fail)
                go_meet
                case rel => exact ⟨Z.b, by show LS _ _ _ _ _ _ _ _ _; rw [HLst.out, List.map_nil, List.append_nil]; exact H.out⟩
            case rest =>
              obtain ⟨s, H1⟩ := hcut
              clear c0 c1 c2 c3 c4 c5 c6 c7 c8 c9 m0 m1 m2 m3 m4 m5 m6 m7 m8 m9 H
              obtain ⟨c0, c1, c2, c3, c4, c5, c6, c7, c8, c9⟩ := blk10 H1.out.hX
              obtain ⟨m0, m1, m2, m3, m4, m5, m6, m7, m8, m9⟩ := blk10 H1.out.hM
              go_upto_if 99 with (fail)
              go_cut [7] from 99 to 112 (fun pv wx => ∃ s : Nat × Nat, Hid (LS w wx Q X Y M (putB Z s) pv (l ++ (belI X.b Y.b).map (putB Z) ++ (aboI X.b Y.b).map (putB Z))))
              case first =>
                by_cases h1 : M.b.2 < X.b.2
                · have h1' : (M.b.2 : Int) < (X.b.2 : Int) := by omega
                  have hd : decide (M.b.2 < X.b.2) = true := decide_eq_true h1
                  have HB1 : Hid ((0 : Int) ≤ (M.b.2 : Int) ∧ (M.b.2 : Int) + 1 < 4294967296) := (by have := hM1.out; have := hX2.out; exact ⟨by omega, by omega⟩)
                  obtain ⟨E, hE⟩ : ∃ E, E = M.b.2 + 1 := ⟨_, rfl⟩
                  have HP : Hid ((M.b.2 : Int) + 1 = (E : Int)) := by show _ = _; omega
                  have HLst : Hid (aboI X.b Y.b = [(E, X.b.2)]) := by show _ = _; unfold aboI; rw [← HMf.out, if_pos h1, hE]
                  clear hE
                  have HLE : Hid ((l ++ (belI X.b Y.b).map (putB Z)).length ≤ 40) := by show _ ≤ _; have := HLEN.out; have hb2 := cutI_len X.b Y.b; unfold cutI at hb2; rw [List.length_append] at hb2; rw [List.length_append, List.length_map]; omega
                  clear h1
                  go_upto_region 19 with (fail)
                  obtain ⟨hp1, hp2⟩ := HB1.out
                  go_wp2_with (first | (refine wpList_store_blk rfl 27 (.tmp 108) (.tmp 107) rfl (Q + 1) 2 #[.int .u32 ((M.b.2 : Int) + 1 : Int), .int .u32 (X.b.2 : Int)] #[.int .u32 (Z.a.1 : Int), .int .u32 (Z.a.2 : Int), .int .u32 ((M.b.2 : Int) + 1 : Int), .int .u32 (X.b.2 : Int), .int .u16 (Z.c.1 : Int), .int .u16 (Z.c.2 : Int), .int .u16 (Z.d.1 : Int), .int .u16 (Z.d.2 : Int), .int .u8 (Z.m.1 : Int), .int .u8 (Z.m.2 : Int)] rfl rfl 33 _ H1.out.hZ (Nat.le_of_ble_eq_true rfl) rfl (by kernel_rfl) rfl ?_; intro w4 h4 ho4; rw [HP.out] at h4; have hl4 := blk_lt h4; have H4 : Hid (LS w w4 Q X Y M (putB Z (E, X.b.2)) _ (l ++ (belI X.b Y.b).map (putB Z))) := H1.out.put hQl h4 ho4; obtain ⟨z0, z1, z2, z3, z4, z5, z6, z7, z8, z9⟩ := blk10 h4; clear h4 ho4 c0 c1 c2 c3 c4 c5 c6 c7 c8 c9 m0 m1 m2 m3 m4 m5 m6 m7 m8 m9) | (at_builtin; refine wpList_appendX rfl (.tmp 109) (.tmp 111) rfl (Q + 1 + 1) _ (l ++ (belI X.b Y.b).map (putB Z)) rfl (H4.out.hr.alloc _) (Q + 1 + 1) _ [putB Z (E, X.b.2)] rfl (RowX.one w4 (Q + 1 + 1) (putB Z (E, X.b.2)) (by omega)) (by simp; omega) (by have := HLE.out; simp only [List.length_cons, List.length_nil]; omega) ?_; intro v5 w5 hrow5 hgr5))
                  go_meet
                  case rel => exact ⟨(E, X.b.2), by show LS _ _ _ _ _ _ _ _ _; rw [HLst.out]; exact H4.out.app hQl hrow5 hgr5⟩
                · have h1' : ¬ (M.b.2 : Int) < (X.b.2 : Int) := by omega
                  have hd : decide (M.b.2 < X.b.2) = false := decide_eq_false h1
                  have HLst : Hid (aboI X.b Y.b = []) := by show _ = _; unfold aboI; rw [← HMf.out, if_neg h1]
                  clear h1
                  go_wp2_with (fail)
                  go_meet
                  case rel => exact ⟨s, by show LS _ _ _ _ _ _ _ _ _; rw [HLst.out, List.map_nil, List.append_nil]; exact H1.out⟩
              case rest =>
                obtain ⟨t, H2⟩ := hcut
                clear c0 c1 c2 c3 c4 c5 c6 c7 c8 c9 m0 m1 m2 m3 m4 m5 m6 m7 m8 m9 H1
                obtain ⟨c0, c1, c2, c3, c4, c5, c6, c7, c8, c9⟩ := blk10 H2.out.hX
                obtain ⟨m0, m1, m2, m3, m4, m5, m6, m7, m8, m9⟩ := blk10 H2.out.hM
                obtain ⟨Z', hZ'⟩ : ∃ Z', Z' = putB Z M.b := ⟨_, rfl⟩
                obtain ⟨l', hl'⟩ : ∃ l', l' = (l ++ (belI X.b Y.b).map (putB Z) ++ (aboI X.b Y.b).map (putB Z)) := ⟨_, rfl⟩
                have HZ' : Hid (Z' = mtK X Y 2) := by show _ = _; rw [hZ', HMf.out, HZ.out]; rfl
                have HL' : Hid (l' = lsK X Y 2) := by
                  show _ = _
                  have e : Z.b = X.b := by rw [HZ.out]; rfl
                  rw [hl', HL.out, List.append_assoc, ← List.map_append]
                  show _ ++ (cutI X.b Y.b).map (putB Z) = lsK X Y 1 ++ lsS (mtK X Y 1) Y 1
                  rw [← HZ.out, ← e]
                  rfl
                have HZe : Hid (Z' = putB Z M.b) := hZ'
                rw [← hl'] at H2
                clear hZ' hl'
                go_upto_if 122 with ((refine wpList_store_blk rfl 27 (.tmp 115) (.tmp 114) rfl (Q + 1) 2 #[.int .u32 (M.b.1 : Int), .int .u32 (M.b.2 : Int)] #[.int .u32 (Z.a.1 : Int), .int .u32 (Z.a.2 : Int), .int .u32 (M.b.1 : Int), .int .u32 (M.b.2 : Int), .int .u16 (Z.c.1 : Int), .int .u16 (Z.c.2 : Int), .int .u16 (Z.d.1 : Int), .int .u16 (Z.d.2 : Int), .int .u8 (Z.m.1 : Int), .int .u8 (Z.m.2 : Int)] rfl rfl 33 _ H2.out.hZ (Nat.le_of_ble_eq_true rfl) rfl (by kernel_rfl) rfl ?_; intro w6 h6 ho6; have H6 : Hid (LS w w6 Q X Y M Z' _ l') := (by show LS _ _ _ _ _ _ _ _ _; rw [HZe.out]; exact H2.out.put hQl h6 ho6); clear h6 ho6 c0 c1 c2 c3 c4 c5 c6 c7 c8 c9 m0 m1 m2 m3 m4 m5 m6 m7 m8 m9 H2; obtain ⟨c0, c1, c2, c3, c4, c5, c6, c7, c8, c9⟩ := blk10 H6.out.hX; obtain ⟨m0, m1, m2, m3, m4, m5, m6, m7, m8, m9⟩ := blk10 H6.out.hM; obtain ⟨y0, y1, y2, y3, y4, y5, y6, y7, y8, y9⟩ := blk10 H6.out.hY))
                have HZ2 : Hid (Z' = mtK X Y 2) := HZ'.out
                have HL2 : Hid (l' = lsK X Y 2) := HL'.out
                clear HZ HL HZe HMf HLEN hM1 hX2 HZ' HL'
                have H : Hid (LS w _ Q X Y M Z' _ l') := H6.out
                clear H6
                clear s t
                have HZ : Hid (Z' = mtK X Y 2) := HZ2.out
                have HL : Hid (l' = lsK X Y 2) := HL2.out
                clear HZ2 HL2 Z l
                obtain ⟨Z, eZ⟩ : ∃ Z, Z = Z' := ⟨_, rfl⟩
                obtain ⟨l, el⟩ : ∃ l, l = l' := ⟨_, rfl⟩
                subst eZ el
                have hMf : M.c = meetI X.c Y.c := by rw [HMB.out]; rfl
                have hM1 : Hid (M.c.1 < 65536) := by show _ < _; have b1 := meetB_bd HBX.out HBY.out; rw [← HMB.out] at b1; exact b1.2.2.2.2.1
                have hX2 : Hid (X.c.2 < 65536) := HBX.out.2.2.2.2.2.1
                have HMf : Hid (M.c = meetI X.c Y.c) := hMf
                have HLEN : Hid (l.length ≤ 32) := by show _ ≤ _; rw [HL.out]; exact Nat.le_trans (lsK_len X Y 2) (by decide)
                clear hMf
                go_cut [7] from 122 to 135 (fun pv wx => ∃ s : Nat × Nat, Hid (LS w wx Q X Y M (putC Z s) pv (l ++ (belI X.c Y.c).map (putC Z))))
                case first =>
                  by_cases h1 : X.c.1 < M.c.1
                  · have h1' : (X.c.1 : Int) < (M.c.1 : Int) := by omega
                    have hd : decide (X.c.1 < M.c.1) = true := decide_eq_true h1
                    have HB1 : Hid ((1 : Int) ≤ (M.c.1 : Int) ∧ (M.c.1 : Int) < 65536) := (by have := hM1.out; have := hX2.out; exact ⟨by omega, by omega⟩)
                    obtain ⟨E, hE⟩ : ∃ E, E = M.c.1 - 1 := ⟨_, rfl⟩
                    have HP : Hid ((M.c.1 : Int) - 1 = (E : Int)) := by show _ = _; omega
                    have HLst : Hid (belI X.c Y.c = [(X.c.1, E)]) := by show _ = _; unfold belI; rw [← HMf.out, if_pos h1, hE]
                    clear hE
                    have HLE : Hid (l.length ≤ 40) := by show _ ≤ _; have := HLEN.out; omega
                    clear h1
                    go_upto_region 23 with (fail)
                    obtain ⟨hp1, hp2⟩ := HB1.out
                    go_wp2_with (first | (refine wpList_store_blk rfl 29 (.tmp 131) (.tmp 130) rfl (Q + 1) 4 #[.int .u16 (X.c.1 : Int), .int .u16 ((M.c.1 : Int) - 1 : Int)] #[.int .u32 (Z.a.1 : Int), .int .u32 (Z.a.2 : Int), .int .u32 (Z.b.1 : Int), .int .u32 (Z.b.2 : Int), .int .u16 (X.c.1 : Int), .int .u16 ((M.c.1 : Int) - 1 : Int), .int .u16 (Z.d.1 : Int), .int .u16 (Z.d.2 : Int), .int .u8 (Z.m.1 : Int), .int .u8 (Z.m.2 : Int)] rfl rfl 33 _ H.out.hZ (Nat.le_of_ble_eq_true rfl) rfl (by kernel_rfl) rfl ?_; intro w4 h4 ho4; rw [HP.out] at h4; have hl4 := blk_lt h4; have H4 : Hid (LS w w4 Q X Y M (putC Z (X.c.1, E)) _ l) := H.out.put hQl h4 ho4; obtain ⟨z0, z1, z2, z3, z4, z5, z6, z7, z8, z9⟩ := blk10 h4; clear h4 ho4 c0 c1 c2 c3 c4 c5 c6 c7 c8 c9 m0 m1 m2 m3 m4 m5 m6 m7 m8 m9) | (at_builtin; refine wpList_appendX rfl (.tmp 132) (.tmp 134) rfl (Q + 1 + 1) _ l rfl (H4.out.hr.alloc _) (Q + 1 + 1) _ [putC Z (X.c.1, E)] rfl (RowX.one w4 (Q + 1 + 1) (putC Z (X.c.1, E)) (by omega)) (by simp; omega) (by have := HLE.out; simp only [List.length_cons, List.length_nil]; omega) ?_; intro v5 w5 hrow5 hgr5))
                    go_meet
                    case rel => exact ⟨(X.c.1, E), by show LS _ _ _ _ _ _ _ _ _; rw [HLst.out]; exact H4.out.app hQl hrow5 hgr5⟩
                  · have h1' : ¬ (X.c.1 : Int) < (M.c.1 : Int) := by omega
                    have hd : decide (X.c.1 < M.c.1) = false := decide_eq_false h1
                    have HLst : Hid (belI X.c Y.c = []) := by show _ = _; unfold belI; rw [← HMf.out, if_neg h1]
                    clear h1
                    go_wp2_with (fail)
                    go_meet
                    case rel => exact ⟨Z.c, by show LS _ _ _ _ _ _ _ _ _; rw [HLst.out, List.map_nil, List.append_nil]; exact H.out⟩
                case rest =>
                  obtain ⟨s, H1⟩ := hcut
                  clear c0 c1 c2 c3 c4 c5 c6 c7 c8 c9 m0 m1 m2 m3 m4 m5 m6 m7 m8 m9 H
                  obtain ⟨c0, c1, c2, c3, c4, c5, c6, c7, c8, c9⟩ := blk10 H1.out.hX
                  obtain ⟨m0, m1, m2, m3, m4, m5, m6, m7, m8, m9⟩ := blk10 H1.out.hM
                  go_upto_if 142 with (fail)
                  go_cut [7] from 142 to 155 (fun pv wx => ∃ s : Nat × Nat, Hid (LS w wx Q X Y M (putC Z s) pv (l ++ (belI X.c Y.c).map (putC Z) ++ (aboI X.c Y.c).map (putC Z))))
                  case first =>
                    by_cases h1 : M.c.2 < X.c.2
                    · have h1' : (M.c.2 : Int) < (X.c.2 : Int) := by omega
                      have hd : decide (M.c.2 < X.c.2) = true := decide_eq_true h1
                      have HB1 : Hid ((0 : Int) ≤ (M.c.2 : Int) ∧ (M.c.2 : Int) + 1 < 65536) := (by have := hM1.out; have := hX2.out; exact ⟨by omega, by omega⟩)
                      obtain ⟨E, hE⟩ : ∃ E, E = M.c.2 + 1 := ⟨_, rfl⟩
                      have HP : Hid ((M.c.2 : Int) + 1 = (E : Int)) := by show _ = _; omega
                      have HLst : Hid (aboI X.c Y.c = [(E, X.c.2)]) := by show _ = _; unfold aboI; rw [← HMf.out, if_pos h1, hE]
                      clear hE
                      have HLE : Hid ((l ++ (belI X.c Y.c).map (putC Z)).length ≤ 40) := by show _ ≤ _; have := HLEN.out; have hb2 := cutI_len X.c Y.c; unfold cutI at hb2; rw [List.length_append] at hb2; rw [List.length_append, List.length_map]; omega
                      clear h1
                      go_upto_region 26 with (fail)
                      obtain ⟨hp1, hp2⟩ := HB1.out
                      go_wp2_with (first | (refine wpList_store_blk rfl 29 (.tmp 151) (.tmp 150) rfl (Q + 1) 4 #[.int .u16 ((M.c.2 : Int) + 1 : Int), .int .u16 (X.c.2 : Int)] #[.int .u32 (Z.a.1 : Int), .int .u32 (Z.a.2 : Int), .int .u32 (Z.b.1 : Int), .int .u32 (Z.b.2 : Int), .int .u16 ((M.c.2 : Int) + 1 : Int), .int .u16 (X.c.2 : Int), .int .u16 (Z.d.1 : Int), .int .u16 (Z.d.2 : Int), .int .u8 (Z.m.1 : Int), .int .u8 (Z.m.2 : Int)] rfl rfl 33 _ H1.out.hZ (Nat.le_of_ble_eq_true rfl) rfl (by kernel_rfl) rfl ?_; intro w4 h4 ho4; rw [HP.out] at h4; have hl4 := blk_lt h4; have H4 : Hid (LS w w4 Q X Y M (putC Z (E, X.c.2)) _ (l ++ (belI X.c Y.c).map (putC Z))) := H1.out.put hQl h4 ho4; obtain ⟨z0, z1, z2, z3, z4, z5, z6, z7, z8, z9⟩ := blk10 h4; clear h4 ho4 c0 c1 c2 c3 c4 c5 c6 c7 c8 c9 m0 m1 m2 m3 m4 m5 m6 m7 m8 m9) | (at_builtin; refine wpList_appendX rfl (.tmp 152) (.tmp 154) rfl (Q + 1 + 1) _ (l ++ (belI X.c Y.c).map (putC Z)) rfl (H4.out.hr.alloc _) (Q + 1 + 1) _ [putC Z (E, X.c.2)] rfl (RowX.one w4 (Q + 1 + 1) (putC Z (E, X.c.2)) (by omega)) (by simp; omega) (by have := HLE.out; simp only [List.length_cons, List.length_nil]; omega) ?_; intro v5 w5 hrow5 hgr5))
                      go_meet
                      case rel => exact ⟨(E, X.c.2), by show LS _ _ _ _ _ _ _ _ _; rw [HLst.out]; exact H4.out.app hQl hrow5 hgr5⟩
                    · have h1' : ¬ (M.c.2 : Int) < (X.c.2 : Int) := by omega
                      have hd : decide (M.c.2 < X.c.2) = false := decide_eq_false h1
                      have HLst : Hid (aboI X.c Y.c = []) := by show _ = _; unfold aboI; rw [← HMf.out, if_neg h1]
                      clear h1
                      go_wp2_with (fail)
                      go_meet
                      case rel => exact ⟨s, by show LS _ _ _ _ _ _ _ _ _; rw [HLst.out, List.map_nil, List.append_nil]; exact H1.out⟩
                  case rest =>
                    obtain ⟨t, H2⟩ := hcut
                    clear c0 c1 c2 c3 c4 c5 c6 c7 c8 c9 m0 m1 m2 m3 m4 m5 m6 m7 m8 m9 H1
                    obtain ⟨c0, c1, c2, c3, c4, c5, c6, c7, c8, c9⟩ := blk10 H2.out.hX
                    obtain ⟨m0, m1, m2, m3, m4, m5, m6, m7, m8, m9⟩ := blk10 H2.out.hM
                    obtain ⟨Z', hZ'⟩ : ∃ Z', Z' = putC Z M.c := ⟨_, rfl⟩
                    obtain ⟨l', hl'⟩ : ∃ l', l' = (l ++ (belI X.c Y.c).map (putC Z) ++ (aboI X.c Y.c).map (putC Z)) := ⟨_, rfl⟩
                    have HZ' : Hid (Z' = mtK X Y 3) := by show _ = _; rw [hZ', HMf.out, HZ.out]; rfl
                    have HL' : Hid (l' = lsK X Y 3) := by
                      show _ = _
                      have e : Z.c = X.c := by rw [HZ.out]; rfl
                      rw [hl', HL.out, List.append_assoc, ← List.map_append]
                      show _ ++ (cutI X.c Y.c).map (putC Z) = lsK X Y 2 ++ lsS (mtK X Y 2) Y 2
                      rw [← HZ.out, ← e]
                      rfl
                    have HZe : Hid (Z' = putC Z M.c) := hZ'
                    rw [← hl'] at H2
                    clear hZ' hl'
                    go_upto_if 165 with ((refine wpList_store_blk rfl 29 (.tmp 158) (.tmp 157) rfl (Q + 1) 4 #[.int .u16 (M.c.1 : Int), .int .u16 (M.c.2 : Int)] #[.int .u32 (Z.a.1 : Int), .int .u32 (Z.a.2 : Int), .int .u32 (Z.b.1 : Int), .int .u32 (Z.b.2 : Int), .int .u16 (M.c.1 : Int), .int .u16 (M.c.2 : Int), .int .u16 (Z.d.1 : Int), .int .u16 (Z.d.2 : Int), .int .u8 (Z.m.1 : Int), .int .u8 (Z.m.2 : Int)] rfl rfl 33 _ H2.out.hZ (Nat.le_of_ble_eq_true rfl) rfl (by kernel_rfl) rfl ?_; intro w6 h6 ho6; have H6 : Hid (LS w w6 Q X Y M Z' _ l') := (by show LS _ _ _ _ _ _ _ _ _; rw [HZe.out]; exact H2.out.put hQl h6 ho6); clear h6 ho6 c0 c1 c2 c3 c4 c5 c6 c7 c8 c9 m0 m1 m2 m3 m4 m5 m6 m7 m8 m9 H2; obtain ⟨c0, c1, c2, c3, c4, c5, c6, c7, c8, c9⟩ := blk10 H6.out.hX; obtain ⟨m0, m1, m2, m3, m4, m5, m6, m7, m8, m9⟩ := blk10 H6.out.hM; obtain ⟨y0, y1, y2, y3, y4, y5, y6, y7, y8, y9⟩ := blk10 H6.out.hY))
                    have HZ2 : Hid (Z' = mtK X Y 3) := HZ'.out
                    have HL2 : Hid (l' = lsK X Y 3) := HL'.out
                    clear HZ HL HZe HMf HLEN hM1 hX2 HZ' HL'
                    have H : Hid (LS w _ Q X Y M Z' _ l') := H6.out
                    clear H6
                    clear s t
                    have HZ : Hid (Z' = mtK X Y 3) := HZ2.out
                    have HL : Hid (l' = lsK X Y 3) := HL2.out
                    clear HZ2 HL2 Z l
                    obtain ⟨Z, eZ⟩ : ∃ Z, Z = Z' := ⟨_, rfl⟩
                    obtain ⟨l, el⟩ : ∃ l, l = l' := ⟨_, rfl⟩
                    subst eZ el
                    have hMf : M.d = meetI X.d Y.d := by rw [HMB.out]; rfl
                    have hM1 : Hid (M.d.1 < 65536) := by show _ < _; have b1 := meetB_bd HBX.out HBY.out; rw [← HMB.out] at b1; exact b1.2.2.2.2.2.2.1
                    have hX2 : Hid (X.d.2 < 65536) := HBX.out.2.2.2.2.2.2.2.1
                    have HMf : Hid (M.d = meetI X.d Y.d) := hMf
                    have HLEN : Hid (l.length ≤ 32) := by show _ ≤ _; rw [HL.out]; exact Nat.le_trans (lsK_len X Y 3) (by decide)
                    clear hMf
                    go_cut [7] from 165 to 178 (fun pv wx => ∃ s : Nat × Nat, Hid (LS w wx Q X Y M (putD Z s) pv (l ++ (belI X.d Y.d).map (putD Z))))
                    case first =>
                      by_cases h1 : X.d.1 < M.d.1
                      · have h1' : (X.d.1 : Int) < (M.d.1 : Int) := by omega
                        have hd : decide (X.d.1 < M.d.1) = true := decide_eq_true h1
                        have HB1 : Hid ((1 : Int) ≤ (M.d.1 : Int) ∧ (M.d.1 : Int) < 65536) := (by have := hM1.out; have := hX2.out; exact ⟨by omega, by omega⟩)
                        obtain ⟨E, hE⟩ : ∃ E, E = M.d.1 - 1 := ⟨_, rfl⟩
                        have HP : Hid ((M.d.1 : Int) - 1 = (E : Int)) := by show _ = _; omega
                        have HLst : Hid (belI X.d Y.d = [(X.d.1, E)]) := by show _ = _; unfold belI; rw [← HMf.out, if_pos h1, hE]
                        clear hE
                        have HLE : Hid (l.length ≤ 40) := by show _ ≤ _; have := HLEN.out; omega
                        clear h1
                        go_upto_region 30 with (fail)
                        obtain ⟨hp1, hp2⟩ := HB1.out
                        go_wp2_with (first | (refine wpList_store_blk rfl 29 (.tmp 174) (.tmp 173) rfl (Q + 1) 6 #[.int .u16 (X.d.1 : Int), .int .u16 ((M.d.1 : Int) - 1 : Int)] #[.int .u32 (Z.a.1 : Int), .int .u32 (Z.a.2 : Int), .int .u32 (Z.b.1 : Int), .int .u32 (Z.b.2 : Int), .int .u16 (Z.c.1 : Int), .int .u16 (Z.c.2 : Int), .int .u16 (X.d.1 : Int), .int .u16 ((M.d.1 : Int) - 1 : Int), .int .u8 (Z.m.1 : Int), .int .u8 (Z.m.2 : Int)] rfl rfl 33 _ H.out.hZ (Nat.le_of_ble_eq_true rfl) rfl (by kernel_rfl) rfl ?_; intro w4 h4 ho4; rw [HP.out] at h4; have hl4 := blk_lt h4; have H4 : Hid (LS w w4 Q X Y M (putD Z (X.d.1, E)) _ l) := H.out.put hQl h4 ho4; obtain ⟨z0, z1, z2, z3, z4, z5, z6, z7, z8, z9⟩ := blk10 h4; clear h4 ho4 c0 c1 c2 c3 c4 c5 c6 c7 c8 c9 m0 m1 m2 m3 m4 m5 m6 m7 m8 m9) | (at_builtin; refine wpList_appendX rfl (.tmp 175) (.tmp 177) rfl (Q + 1 + 1) _ l rfl (H4.out.hr.alloc _) (Q + 1 + 1) _ [putD Z (X.d.1, E)] rfl (RowX.one w4 (Q + 1 + 1) (putD Z (X.d.1, E)) (by omega)) (by simp; omega) (by have := HLE.out; simp only [List.length_cons, List.length_nil]; omega) ?_; intro v5 w5 hrow5 hgr5))
                        go_meet
                        case rel => exact ⟨(X.d.1, E), by show LS _ _ _ _ _ _ _ _ _; rw [HLst.out]; exact H4.out.app hQl hrow5 hgr5⟩
                      · have h1' : ¬ (X.d.1 : Int) < (M.d.1 : Int) := by omega
                        have hd : decide (X.d.1 < M.d.1) = false := decide_eq_false h1
                        have HLst : Hid (belI X.d Y.d = []) := by show _ = _; unfold belI; rw [← HMf.out, if_neg h1]
                        clear h1
                        go_wp2_with (fail)
                        go_meet
                        case rel => exact ⟨Z.d, by show LS _ _ _ _ _ _ _ _ _; rw [HLst.out, List.map_nil, List.append_nil]; exact H.out⟩
                    case rest =>
                      obtain ⟨s, H1⟩ := hcut
                      clear c0 c1 c2 c3 c4 c5 c6 c7 c8 c9 m0 m1 m2 m3 m4 m5 m6 m7 m8 m9 H
                      obtain ⟨c0, c1, c2, c3, c4, c5, c6, c7, c8, c9⟩ := blk10 H1.out.hX
                      obtain ⟨m0, m1, m2, m3, m4, m5, m6, m7, m8, m9⟩ := blk10 H1.out.hM
                      go_upto_if 185 with (fail)
                      go_cut [7] from 185 to 198 (fun pv wx => ∃ s : Nat × Nat, Hid (LS w wx Q X Y M (putD Z s) pv (l ++ (belI X.d Y.d).map (putD Z) ++ (aboI X.d Y.d).map (putD Z))))
                      case first =>
                        by_cases h1 : M.d.2 < X.d.2
                        · have h1' : (M.d.2 : Int) < (X.d.2 : Int) := by omega
                          have hd : decide (M.d.2 < X.d.2) = true := decide_eq_true h1
                          have HB1 : Hid ((0 : Int) ≤ (M.d.2 : Int) ∧ (M.d.2 : Int) + 1 < 65536) := (by have := hM1.out; have := hX2.out; exact ⟨by omega, by omega⟩)
                          obtain ⟨E, hE⟩ : ∃ E, E = M.d.2 + 1 := ⟨_, rfl⟩
                          have HP : Hid ((M.d.2 : Int) + 1 = (E : Int)) := by show _ = _; omega
                          have HLst : Hid (aboI X.d Y.d = [(E, X.d.2)]) := by show _ = _; unfold aboI; rw [← HMf.out, if_pos h1, hE]
                          clear hE
                          have HLE : Hid ((l ++ (belI X.d Y.d).map (putD Z)).length ≤ 40) := by show _ ≤ _; have := HLEN.out; have hb2 := cutI_len X.d Y.d; unfold cutI at hb2; rw [List.length_append] at hb2; rw [List.length_append, List.length_map]; omega
                          clear h1
                          go_upto_region 33 with (fail)
                          obtain ⟨hp1, hp2⟩ := HB1.out
                          go_wp2_with (first | (refine wpList_store_blk rfl 29 (.tmp 194) (.tmp 193) rfl (Q + 1) 6 #[.int .u16 ((M.d.2 : Int) + 1 : Int), .int .u16 (X.d.2 : Int)] #[.int .u32 (Z.a.1 : Int), .int .u32 (Z.a.2 : Int), .int .u32 (Z.b.1 : Int), .int .u32 (Z.b.2 : Int), .int .u16 (Z.c.1 : Int), .int .u16 (Z.c.2 : Int), .int .u16 ((M.d.2 : Int) + 1 : Int), .int .u16 (X.d.2 : Int), .int .u8 (Z.m.1 : Int), .int .u8 (Z.m.2 : Int)] rfl rfl 33 _ H1.out.hZ (Nat.le_of_ble_eq_true rfl) rfl (by kernel_rfl) rfl ?_; intro w4 h4 ho4; rw [HP.out] at h4; have hl4 := blk_lt h4; have H4 : Hid (LS w w4 Q X Y M (putD Z (E, X.d.2)) _ (l ++ (belI X.d Y.d).map (putD Z))) := H1.out.put hQl h4 ho4; obtain ⟨z0, z1, z2, z3, z4, z5, z6, z7, z8, z9⟩ := blk10 h4; clear h4 ho4 c0 c1 c2 c3 c4 c5 c6 c7 c8 c9 m0 m1 m2 m3 m4 m5 m6 m7 m8 m9) | (at_builtin; refine wpList_appendX rfl (.tmp 195) (.tmp 197) rfl (Q + 1 + 1) _ (l ++ (belI X.d Y.d).map (putD Z)) rfl (H4.out.hr.alloc _) (Q + 1 + 1) _ [putD Z (E, X.d.2)] rfl (RowX.one w4 (Q + 1 + 1) (putD Z (E, X.d.2)) (by omega)) (by simp; omega) (by have := HLE.out; simp only [List.length_cons, List.length_nil]; omega) ?_; intro v5 w5 hrow5 hgr5))
                          go_meet
                          case rel => exact ⟨(E, X.d.2), by show LS _ _ _ _ _ _ _ _ _; rw [HLst.out]; exact H4.out.app hQl hrow5 hgr5⟩
                        · have h1' : ¬ (M.d.2 : Int) < (X.d.2 : Int) := by omega
                          have hd : decide (M.d.2 < X.d.2) = false := decide_eq_false h1
                          have HLst : Hid (aboI X.d Y.d = []) := by show _ = _; unfold aboI; rw [← HMf.out, if_neg h1]
                          clear h1
                          go_wp2_with (fail)
                          go_meet
                          case rel => exact ⟨s, by show LS _ _ _ _ _ _ _ _ _; rw [HLst.out, List.map_nil, List.append_nil]; exact H1.out⟩
                      case rest =>
                        obtain ⟨t, H2⟩ := hcut
                        clear c0 c1 c2 c3 c4 c5 c6 c7 c8 c9 m0 m1 m2 m3 m4 m5 m6 m7 m8 m9 H1
                        obtain ⟨c0, c1, c2, c3, c4, c5, c6, c7, c8, c9⟩ := blk10 H2.out.hX
                        obtain ⟨m0, m1, m2, m3, m4, m5, m6, m7, m8, m9⟩ := blk10 H2.out.hM
                        obtain ⟨Z', hZ'⟩ : ∃ Z', Z' = putD Z M.d := ⟨_, rfl⟩
                        obtain ⟨l', hl'⟩ : ∃ l', l' = (l ++ (belI X.d Y.d).map (putD Z) ++ (aboI X.d Y.d).map (putD Z)) := ⟨_, rfl⟩
                        have HZ' : Hid (Z' = mtK X Y 4) := by show _ = _; rw [hZ', HMf.out, HZ.out]; rfl
                        have HL' : Hid (l' = lsK X Y 4) := by
                          show _ = _
                          have e : Z.d = X.d := by rw [HZ.out]; rfl
                          rw [hl', HL.out, List.append_assoc, ← List.map_append]
                          show _ ++ (cutI X.d Y.d).map (putD Z) = lsK X Y 3 ++ lsS (mtK X Y 3) Y 3
                          rw [← HZ.out, ← e]
                          rfl
                        have HZe : Hid (Z' = putD Z M.d) := hZ'
                        rw [← hl'] at H2
                        clear hZ' hl'
                        go_wp2_with ((refine wpList_store_blk rfl 29 (.tmp 201) (.tmp 200) rfl (Q + 1) 6 #[.int .u16 (M.d.1 : Int), .int .u16 (M.d.2 : Int)] #[.int .u32 (Z.a.1 : Int), .int .u32 (Z.a.2 : Int), .int .u32 (Z.b.1 : Int), .int .u32 (Z.b.2 : Int), .int .u16 (Z.c.1 : Int), .int .u16 (Z.c.2 : Int), .int .u16 (M.d.1 : Int), .int .u16 (M.d.2 : Int), .int .u8 (Z.m.1 : Int), .int .u8 (Z.m.2 : Int)] rfl rfl 33 _ H2.out.hZ (Nat.le_of_ble_eq_true rfl) rfl (by kernel_rfl) rfl ?_; intro w6 h6 ho6; have H6 : Hid (LS w w6 Q X Y M Z' _ l') := (by show LS _ _ _ _ _ _ _ _ _; rw [HZe.out]; exact H2.out.put hQl h6 ho6); clear h6 ho6 c0 c1 c2 c3 c4 c5 c6 c7 c8 c9 m0 m1 m2 m3 m4 m5 m6 m7 m8 m9 H2; obtain ⟨c0, c1, c2, c3, c4, c5, c6, c7, c8, c9⟩ := blk10 H6.out.hX; obtain ⟨m0, m1, m2, m3, m4, m5, m6, m7, m8, m9⟩ := blk10 H6.out.hM; obtain ⟨y0, y1, y2, y3, y4, y5, y6, y7, y8, y9⟩ := blk10 H6.out.hY))
                        have HZ2 : Hid (Z' = mtK X Y 4) := HZ'.out
                        have HL2 : Hid (l' = lsK X Y 4) := HL'.out
                        clear HZ HL HZe HMf HLEN hM1 hX2 HZ' HL'
                        have H : Hid (LS w _ Q X Y M Z' _ l') := H6.out
                        clear H6
                        clear s t
                        have HZ : Hid (Z' = mtK X Y 4) := HZ2.out
                        have HL : Hid (l' = lsK X Y 4) := HL2.out
                        clear HZ2 HL2 Z l
                        obtain ⟨Z, eZ⟩ : ∃ Z, Z = Z' := ⟨_, rfl⟩
                        obtain ⟨l, el⟩ : ∃ l, l = l' := ⟨_, rfl⟩
                        subst eZ el
                        have hLm := fun W => rlessM X.m.1 X.m.2 Y.m.1 Y.m.2 W HBX.out.2.2.2.2.2.2.2.2.1 HBX.out.2.2.2.2.2.2.2.2.2 HBY.out.2.2.2.2.2.2.2.2.1 HBY.out.2.2.2.2.2.2.2.2.2
                        have HLE : Hid (l.length ≤ 32) := by show _ ≤ _; rw [HL.out]; exact Nat.le_trans (lsK_len X Y 4) (by decide)
                        have HML : Hid ((lessM X.m.1 X.m.2 Y.m.1 Y.m.2).length ≤ 8) := lessM_le X.m.1 X.m.2 Y.m.1 Y.m.2
                        have HFIN : Hid (l ++ (lessM X.m.1 X.m.2 Y.m.1 Y.m.2).map (putM Z) = lessX X Y) := by
                          show _ = _
                          have e : Z.m = X.m := by rw [HZ.out]; rfl
                          rw [HE.out, ← lsK_five, HL.out, ← e]
                          show lsK X Y 4 ++ _ = lsK X Y 4 ++ lsS (mtK X Y 4) Y 4
                          rw [← HZ.out]
                          rfl
                        generalize lessM X.m.1 X.m.2 Y.m.1 Y.m.2 = lm at *
                        refine (hLm _).mono ?_
                        rintro e w7 ⟨v7, rfl, hr7, hb7⟩
                        have H7 : Hid (LS w w7 Q X Y M Z _ l) := H.out.on hb7
                        obtain ⟨ad7, cap7, rfl, hcap7, _⟩ := hr7.form
                        obtain ⟨n, hn⟩ : ∃ n, n = lm.length := ⟨_, rfl⟩
                        rw [← hn] at hcap7 ⊢
                        have HRm : Hid (Row w7 0 (.slice ad7 n cap7) lm) := by rw [hn]; exact hr7.base (Nat.zero_le _)
                        have HN : Hid (n = lm.length) := hn
                        have hnb : n ≤ 8 := by rw [hn]; exact HML.out
                        clear hr7 hb7 hn hLm c0 c1 c2 c3 c4 c5 c6 c7 c8 c9 m0 m1 m2 m3 m4 m5 m6 m7 m8 m9 y0 y1 y2 y3 y4 y5 y6 y7 y8 y9 H
                        go_wp2_with (fail)
                        go_loopw [7, 10] (fun pv iv wr => ∃ (k : Nat) (s : Nat × Nat), k ≤ n ∧ iv = .int .i64 (k : Int) ∧ Hid (LS w wr Q X Y M (putM Z s) pv (l ++ (lm.take k).map (putM Z))) ∧ Hid (Row wr 0 (.slice ad7 n cap7) lm)) (fun _ iv _ => n - (intOf iv).toNat)
                        case atStart => exact ⟨0, Z.m, Nat.zero_le _, rfl, by show LS _ _ _ _ _ _ _ _ _; rw [List.take_zero, List.map_nil, List.append_nil]; exact H7.out, HRm.out⟩
                        case round =>
                          clear H7 HRm
                          obtain ⟨k, s, hk, rfl, HS, hRm⟩ := hrel
                          by_cases hltn : k < n
                          · have hlt : k < lm.length := by rw [← HN.out]; exact hltn
                            obtain ⟨ad8, cap8, e8, _, hat⟩ := hRm.out.form
                            obtain ⟨e81, e82, e83⟩ : ad7 = ad8 ∧ n = lm.length ∧ cap7 = cap8 := by simpa using e8
                            subst e81 e83
                            clear e8 e82
                            obtain ⟨g, rfl, _, hgl, cc⟩ := hat (by omega)
                            obtain ⟨p, hp⟩ : ∃ p, p = lm[k] := ⟨_, rfl⟩
                            have x1 : wr.cell? ⟨g, k * 2, none⟩ = some (.int .u8 (p.1 : Int)) := by rw [hp]; exact (cc k hlt).1
                            have x2 : wr.cell? ⟨g, k * 2 + 1, none⟩ = some (.int .u8 (p.2 : Int)) := by rw [hp]; exact (cc k hlt).2
                            have htake : Hid (l ++ (lm.take (k + 1)).map (putM Z) = (l ++ (lm.take k).map (putM Z)) ++ [putM Z p]) := by show _ = _; rw [List.take_succ_eq_append_getElem hlt, List.map_append, hp, List.append_assoc]; rfl
                            have HLK : Hid ((l ++ (lm.take k).map (putM Z)).length ≤ 40) := by show _ ≤ _; rw [List.length_append, List.length_map, List.length_take]; have := HLE.out; omega
                            clear cc hat hp hlt
                            have hlt' : (k : Int) < (n : Int) := by omega
                            have hk0 : (0 : Int) ≤ (k : Int) := by omega
                            go_wp2_with (first | (refine wpList_store_blk rfl 31 (.tmp 217) (.tmp 216) rfl (Q + 1) 8 #[.int .u8 (p.1 : Int), .int .u8 (p.2 : Int)] #[.int .u32 (Z.a.1 : Int), .int .u32 (Z.a.2 : Int), .int .u32 (Z.b.1 : Int), .int .u32 (Z.b.2 : Int), .int .u16 (Z.c.1 : Int), .int .u16 (Z.c.2 : Int), .int .u16 (Z.d.1 : Int), .int .u16 (Z.d.2 : Int), .int .u8 (p.1 : Int), .int .u8 (p.2 : Int)] rfl rfl 33 _ HS.out.hZ (Nat.le_of_ble_eq_true rfl) rfl (by kernel_rfl) rfl ?_; intro w8 h8 ho8; have hl8 := blk_lt h8; have HS8 : Hid (LS w w8 Q X Y M (putM Z p) _ (l ++ (lm.take k).map (putM Z))) := HS.out.put hQl h8 ho8; have HM8 : Hid (Row w8 0 (.slice (some ⟨g, 0, none⟩) n cap7) lm) := rowM_only hRm.out ho8 HS.out.hZ; obtain ⟨z0, z1, z2, z3, z4, z5, z6, z7, z8, z9⟩ := blk10 h8; clear h8 ho8 x1 x2) | (at_builtin; refine wpList_appendX rfl (.tmp 218) (.tmp 220) rfl (Q + 1 + 1) _ (l ++ (lm.take k).map (putM Z)) rfl (HS8.out.hr.alloc _) (Q + 1 + 1) _ [putM Z p] rfl (RowX.one w8 (Q + 1 + 1) (putM Z p) (by omega)) (by simp; omega) (by have := HLK.out; simp only [List.length_cons, List.length_nil]; omega) ?_; intro v9 w9 hrow9 hgr9))
                            have HS9 := HS8.out.app hQl hrow9 hgr9
                            rw [← htake.out] at HS9
                            go_roundw
                            case rel => exact ⟨k + 1, p, by omega, by go_num, HS9, rowM_grown (Row.alloc HM8.out _) (HS8.out.hr.alloc _) hgr9⟩
                            case measure => simp [intOf]; omega
                          · obtain rfl : k = n := by omega
                            have hF := HS.out.hr
                            rw [HN.out, List.take_length, HFIN.out] at hF
                            have HF : Hid (RowX wr (Q + 1 + 1) _ (lessX X Y)) := hF
                            clear hF
                            go_wp2
                            go_ret
                            exact ⟨_, rfl, HF.out.base (by omega), HS.out.hb⟩
end Go.Proofs.Ythggiblkehcfaaa
