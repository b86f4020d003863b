/-
  What less of each of the five fields answers. Written by tools/mkBxE.py.
-/
import Derived.Test.YthggiblkehcfaaaBxE
namespace Go.Proofs.Ythggiblkehcfaaa
open Go.RowKit
set_option linter.unusedVariables false
set_option linter.unusedSimpArgs false

set_option maxRecDepth 20000 in
theorem src5 (X Y : Bx) (w : World) (b : BdX X) (c : BdX Y) :
    Calls Try.prog 51 #[.agg #[.int .u32 (X.a.1 : Int), .int .u32 (X.a.2 : Int), .int .u32 (X.b.1 : Int), .int .u32 (X.b.2 : Int), .int .u16 (X.c.1 : Int), .int .u16 (X.c.2 : Int), .int .u16 (X.d.1 : Int), .int .u16 (X.d.2 : Int), .int .u8 (X.m.1 : Int), .int .u8 (X.m.2 : Int)], .agg #[.int .u32 (Y.a.1 : Int), .int .u32 (Y.a.2 : Int), .int .u32 (Y.b.1 : Int), .int .u32 (Y.b.2 : Int), .int .u16 (Y.c.1 : Int), .int .u16 (Y.c.2 : Int), .int .u16 (Y.d.1 : Int), .int .u16 (Y.d.2 : Int), .int .u8 (Y.m.1 : Int), .int .u8 (Y.m.2 : Int)]] w fun e w' => ∃ v' : Value, e = .returned v' ∧ RowX w' w.heap.size v' ((cutI X.a Y.a).map (putA X)) ∧ Below w.heap.size w w' := by
  have hM : ∀ W, Calls Try.prog 53 #[.agg #[.int .u32 (X.a.1 : Int), .int .u32 (X.a.2 : Int)], .agg #[.int .u32 (Y.a.1 : Int), .int .u32 (Y.a.2 : Int)]] W fun e w' => ∃ v' : Value, e = .returned v' ∧ RowR w' W.heap.size v' (cutI X.a Y.a) ∧ Below W.heap.size W w' := fun W => lessR X.a.1 X.a.2 Y.a.1 Y.a.2 W b.1 b.2.1 c.1
  have hlen : Hid ((cutI X.a Y.a).length ≤ 100) := by have := cutI_len X.a Y.a; show _ ≤ _; omega
  generalize cutI X.a Y.a = l at hM hlen ⊢
  clear b c
  go_enter Try.func51, Try.ntmps51
  go_wp2_with (fail)
  refine (hM _).mono ?_
  rintro e w1 ⟨v1, rfl, hr1, hb1⟩
  have hX : Hid (w1.heap[w.heap.size]? = some (.cells #[.int .u32 (X.a.1 : Int), .int .u32 (X.a.2 : Int), .int .u32 (X.b.1 : Int), .int .u32 (X.b.2 : Int), .int .u16 (X.c.1 : Int), .int .u16 (X.c.2 : Int), .int .u16 (X.d.1 : Int), .int .u16 (X.d.2 : Int), .int .u8 (X.m.1 : Int), .int .u8 (X.m.2 : Int)] 33)) := blk_on (blk_alloc (blk_new w _) _) hb1
  have hbl : Hid (Below w.heap.size w w1) := by show Below _ _ _; (repeat (first | assumption | exact Below.refl _ _ | refine Below.drew ?_ | refine bel_drewN ?_ _ | refine Below.setCell ?_ (by first | omega | (simp; done) | (simp; omega)) _ | refine Below.alloc ?_ (by first | omega | (simp; done) | (simp; omega)) _ | refine bel_of ?_ (by assumption)))
  have hz1 := hb1.size
  simp at hz1
  obtain ⟨ad, cap, rfl, hcap, _⟩ := hr1.form
  have hR : Hid (RowR w1 (w.heap.size + 1) _ l) := hr1.base (by simp)
  clear hb1 hM hr1
  obtain ⟨n, hn⟩ : ∃ n, n = l.length := ⟨_, rfl⟩
  rw [← hn] at hR hcap hlen ⊢
  have HN : Hid (n = l.length) := hn
  clear hn
  go_wp2_with (fail)
  refine (each_src w.heap.size X l _ (w.heap.size + 1) _ hR.out (by omega) hX.out (by rw [← HN.out]; exact hlen.out)).mono ?_
  rintro e w2 ⟨v2, rfl, hr2, hb2⟩
  have hr3 := hr2.base (b' := w.heap.size) (by omega)
  obtain ⟨ad2, cap2, rfl, _, _⟩ := hr3.form
  have HR3 : Hid (RowX w2 w.heap.size (.slice ad2 (l.map (putA X)).length cap2) (l.map (putA X))) := hr3
  clear hr2 hr3
  obtain ⟨m, hm⟩ : ∃ m, m = (l.map (putA X)).length := ⟨_, rfl⟩
  rw [← hm] at HR3 ⊢
  clear hm
  go_wp2
  go_ret
  exact ⟨_, rfl, HR3.out, hbl.out.trans hb2⟩
set_option maxRecDepth 20000 in
theorem dst5 (X Y : Bx) (w : World) (b : BdX X) (c : BdX Y) :
    Calls Try.prog 59 #[.agg #[.int .u32 (X.a.1 : Int), .int .u32 (X.a.2 : Int), .int .u32 (X.b.1 : Int), .int .u32 (X.b.2 : Int), .int .u16 (X.c.1 : Int), .int .u16 (X.c.2 : Int), .int .u16 (X.d.1 : Int), .int .u16 (X.d.2 : Int), .int .u8 (X.m.1 : Int), .int .u8 (X.m.2 : Int)], .agg #[.int .u32 (Y.a.1 : Int), .int .u32 (Y.a.2 : Int), .int .u32 (Y.b.1 : Int), .int .u32 (Y.b.2 : Int), .int .u16 (Y.c.1 : Int), .int .u16 (Y.c.2 : Int), .int .u16 (Y.d.1 : Int), .int .u16 (Y.d.2 : Int), .int .u8 (Y.m.1 : Int), .int .u8 (Y.m.2 : Int)]] w fun e w' => ∃ v' : Value, e = .returned v' ∧ RowX w' w.heap.size v' ((cutI X.b Y.b).map (putB X)) ∧ Below w.heap.size w w' := by
  have hM : ∀ W, Calls Try.prog 53 #[.agg #[.int .u32 (X.b.1 : Int), .int .u32 (X.b.2 : Int)], .agg #[.int .u32 (Y.b.1 : Int), .int .u32 (Y.b.2 : Int)]] W fun e w' => ∃ v' : Value, e = .returned v' ∧ RowR w' W.heap.size v' (cutI X.b Y.b) ∧ Below W.heap.size W w' := fun W => lessR X.b.1 X.b.2 Y.b.1 Y.b.2 W b.2.2.1 b.2.2.2.1 c.2.2.1
  have hlen : Hid ((cutI X.b Y.b).length ≤ 100) := by have := cutI_len X.b Y.b; show _ ≤ _; omega
  generalize cutI X.b Y.b = l at hM hlen ⊢
  clear b c
  go_enter Try.func59, Try.ntmps59
  go_wp2_with (fail)
  refine (hM _).mono ?_
  rintro e w1 ⟨v1, rfl, hr1, hb1⟩
  have hX : Hid (w1.heap[w.heap.size]? = some (.cells #[.int .u32 (X.a.1 : Int), .int .u32 (X.a.2 : Int), .int .u32 (X.b.1 : Int), .int .u32 (X.b.2 : Int), .int .u16 (X.c.1 : Int), .int .u16 (X.c.2 : Int), .int .u16 (X.d.1 : Int), .int .u16 (X.d.2 : Int), .int .u8 (X.m.1 : Int), .int .u8 (X.m.2 : Int)] 33)) := blk_on (blk_alloc (blk_new w _) _) hb1
  have hbl : Hid (Below w.heap.size w w1) := by show Below _ _ _; (repeat (first | assumption | exact Below.refl _ _ | refine Below.drew ?_ | refine bel_drewN ?_ _ | refine Below.setCell ?_ (by first | omega | (simp; done) | (simp; omega)) _ | refine Below.alloc ?_ (by first | omega | (simp; done) | (simp; omega)) _ | refine bel_of ?_ (by assumption)))
  have hz1 := hb1.size
  simp at hz1
  obtain ⟨ad, cap, rfl, hcap, _⟩ := hr1.form
  have hR : Hid (RowR w1 (w.heap.size + 1) _ l) := hr1.base (by simp)
  clear hb1 hM hr1
  obtain ⟨n, hn⟩ : ∃ n, n = l.length := ⟨_, rfl⟩
  rw [← hn] at hR hcap hlen ⊢
  have HN : Hid (n = l.length) := hn
  clear hn
  go_wp2_with (fail)
  refine (each_dst w.heap.size X l _ (w.heap.size + 1) _ hR.out (by omega) hX.out (by rw [← HN.out]; exact hlen.out)).mono ?_
  rintro e w2 ⟨v2, rfl, hr2, hb2⟩
  have hr3 := hr2.base (b' := w.heap.size) (by omega)
  obtain ⟨ad2, cap2, rfl, _, _⟩ := hr3.form
  have HR3 : Hid (RowX w2 w.heap.size (.slice ad2 (l.map (putB X)).length cap2) (l.map (putB X))) := hr3
  clear hr2 hr3
  obtain ⟨m, hm⟩ : ∃ m, m = (l.map (putB X)).length := ⟨_, rfl⟩
  rw [← hm] at HR3 ⊢
  clear hm
  go_wp2
  go_ret
  exact ⟨_, rfl, HR3.out, hbl.out.trans hb2⟩
set_option maxRecDepth 20000 in
theorem sport5 (X Y : Bx) (w : World) (b : BdX X) (c : BdX Y) (h : okI (meetI X.c Y.c) = true) :
    Calls Try.prog 68 #[.agg #[.int .u32 (X.a.1 : Int), .int .u32 (X.a.2 : Int), .int .u32 (X.b.1 : Int), .int .u32 (X.b.2 : Int), .int .u16 (X.c.1 : Int), .int .u16 (X.c.2 : Int), .int .u16 (X.d.1 : Int), .int .u16 (X.d.2 : Int), .int .u8 (X.m.1 : Int), .int .u8 (X.m.2 : Int)], .agg #[.int .u32 (Y.a.1 : Int), .int .u32 (Y.a.2 : Int), .int .u32 (Y.b.1 : Int), .int .u32 (Y.b.2 : Int), .int .u16 (Y.c.1 : Int), .int .u16 (Y.c.2 : Int), .int .u16 (Y.d.1 : Int), .int .u16 (Y.d.2 : Int), .int .u8 (Y.m.1 : Int), .int .u8 (Y.m.2 : Int)]] w fun e w' => ∃ v' : Value, e = .returned v' ∧ RowX w' w.heap.size v' ((cutI X.c Y.c).map (putC X)) ∧ Below w.heap.size w w' := by
  have hM : ∀ W, Calls Try.prog 70 #[.agg #[.int .u16 (X.c.1 : Int), .int .u16 (X.c.2 : Int)], .agg #[.int .u16 (Y.c.1 : Int), .int .u16 (Y.c.2 : Int)]] W fun e w' => ∃ v' : Value, e = .returned v' ∧ RowS w' W.heap.size v' (cutI X.c Y.c) ∧ Below W.heap.size W w' := fun W => lessS X.c.1 X.c.2 Y.c.1 Y.c.2 W b.2.2.2.2.1 b.2.2.2.2.2.1 c.2.2.2.2.1 (of_decide_eq_true h)
  have hlen : Hid ((cutI X.c Y.c).length ≤ 100) := by have := cutI_len X.c Y.c; show _ ≤ _; omega
  generalize cutI X.c Y.c = l at hM hlen ⊢
  clear b c h
  go_enter Try.func68, Try.ntmps68
  go_wp2_with (fail)
  refine (hM _).mono ?_
  rintro e w1 ⟨v1, rfl, hr1, hb1⟩
  have hX : Hid (w1.heap[w.heap.size]? = some (.cells #[.int .u32 (X.a.1 : Int), .int .u32 (X.a.2 : Int), .int .u32 (X.b.1 : Int), .int .u32 (X.b.2 : Int), .int .u16 (X.c.1 : Int), .int .u16 (X.c.2 : Int), .int .u16 (X.d.1 : Int), .int .u16 (X.d.2 : Int), .int .u8 (X.m.1 : Int), .int .u8 (X.m.2 : Int)] 33)) := blk_on (blk_alloc (blk_new w _) _) hb1
  have hbl : Hid (Below w.heap.size w w1) := by show Below _ _ _; (repeat (first | assumption | exact Below.refl _ _ | refine Below.drew ?_ | refine bel_drewN ?_ _ | refine Below.setCell ?_ (by first | omega | (simp; done) | (simp; omega)) _ | refine Below.alloc ?_ (by first | omega | (simp; done) | (simp; omega)) _ | refine bel_of ?_ (by assumption)))
  have hz1 := hb1.size
  simp at hz1
  obtain ⟨ad, cap, rfl, hcap, _⟩ := hr1.form
  have hR : Hid (RowS w1 (w.heap.size + 1) _ l) := hr1.base (by simp)
  clear hb1 hM hr1
  obtain ⟨n, hn⟩ : ∃ n, n = l.length := ⟨_, rfl⟩
  rw [← hn] at hR hcap hlen ⊢
  have HN : Hid (n = l.length) := hn
  clear hn
  go_wp2_with (fail)
  refine (each_sport w.heap.size X l _ (w.heap.size + 1) _ hR.out (by omega) hX.out (by rw [← HN.out]; exact hlen.out)).mono ?_
  rintro e w2 ⟨v2, rfl, hr2, hb2⟩
  have hr3 := hr2.base (b' := w.heap.size) (by omega)
  obtain ⟨ad2, cap2, rfl, _, _⟩ := hr3.form
  have HR3 : Hid (RowX w2 w.heap.size (.slice ad2 (l.map (putC X)).length cap2) (l.map (putC X))) := hr3
  clear hr2 hr3
  obtain ⟨m, hm⟩ : ∃ m, m = (l.map (putC X)).length := ⟨_, rfl⟩
  rw [← hm] at HR3 ⊢
  clear hm
  go_wp2
  go_ret
  exact ⟨_, rfl, HR3.out, hbl.out.trans hb2⟩
set_option maxRecDepth 20000 in
theorem dport5 (X Y : Bx) (w : World) (b : BdX X) (c : BdX Y) (h : okI (meetI X.d Y.d) = true) :
    Calls Try.prog 76 #[.agg #[.int .u32 (X.a.1 : Int), .int .u32 (X.a.2 : Int), .int .u32 (X.b.1 : Int), .int .u32 (X.b.2 : Int), .int .u16 (X.c.1 : Int), .int .u16 (X.c.2 : Int), .int .u16 (X.d.1 : Int), .int .u16 (X.d.2 : Int), .int .u8 (X.m.1 : Int), .int .u8 (X.m.2 : Int)], .agg #[.int .u32 (Y.a.1 : Int), .int .u32 (Y.a.2 : Int), .int .u32 (Y.b.1 : Int), .int .u32 (Y.b.2 : Int), .int .u16 (Y.c.1 : Int), .int .u16 (Y.c.2 : Int), .int .u16 (Y.d.1 : Int), .int .u16 (Y.d.2 : Int), .int .u8 (Y.m.1 : Int), .int .u8 (Y.m.2 : Int)]] w fun e w' => ∃ v' : Value, e = .returned v' ∧ RowX w' w.heap.size v' ((cutI X.d Y.d).map (putD X)) ∧ Below w.heap.size w w' := by
  have hM : ∀ W, Calls Try.prog 70 #[.agg #[.int .u16 (X.d.1 : Int), .int .u16 (X.d.2 : Int)], .agg #[.int .u16 (Y.d.1 : Int), .int .u16 (Y.d.2 : Int)]] W fun e w' => ∃ v' : Value, e = .returned v' ∧ RowS w' W.heap.size v' (cutI X.d Y.d) ∧ Below W.heap.size W w' := fun W => lessS X.d.1 X.d.2 Y.d.1 Y.d.2 W b.2.2.2.2.2.2.1 b.2.2.2.2.2.2.2.1 c.2.2.2.2.2.2.1 (of_decide_eq_true h)
  have hlen : Hid ((cutI X.d Y.d).length ≤ 100) := by have := cutI_len X.d Y.d; show _ ≤ _; omega
  generalize cutI X.d Y.d = l at hM hlen ⊢
  clear b c h
  go_enter Try.func76, Try.ntmps76
  go_wp2_with (fail)
  refine (hM _).mono ?_
  rintro e w1 ⟨v1, rfl, hr1, hb1⟩
  have hX : Hid (w1.heap[w.heap.size]? = some (.cells #[.int .u32 (X.a.1 : Int), .int .u32 (X.a.2 : Int), .int .u32 (X.b.1 : Int), .int .u32 (X.b.2 : Int), .int .u16 (X.c.1 : Int), .int .u16 (X.c.2 : Int), .int .u16 (X.d.1 : Int), .int .u16 (X.d.2 : Int), .int .u8 (X.m.1 : Int), .int .u8 (X.m.2 : Int)] 33)) := blk_on (blk_alloc (blk_new w _) _) hb1
  have hbl : Hid (Below w.heap.size w w1) := by show Below _ _ _; (repeat (first | assumption | exact Below.refl _ _ | refine Below.drew ?_ | refine bel_drewN ?_ _ | refine Below.setCell ?_ (by first | omega | (simp; done) | (simp; omega)) _ | refine Below.alloc ?_ (by first | omega | (simp; done) | (simp; omega)) _ | refine bel_of ?_ (by assumption)))
  have hz1 := hb1.size
  simp at hz1
  obtain ⟨ad, cap, rfl, hcap, _⟩ := hr1.form
  have hR : Hid (RowS w1 (w.heap.size + 1) _ l) := hr1.base (by simp)
  clear hb1 hM hr1
  obtain ⟨n, hn⟩ : ∃ n, n = l.length := ⟨_, rfl⟩
  rw [← hn] at hR hcap hlen ⊢
  have HN : Hid (n = l.length) := hn
  clear hn
  go_wp2_with (fail)
  refine (each_dport w.heap.size X l _ (w.heap.size + 1) _ hR.out (by omega) hX.out (by rw [← HN.out]; exact hlen.out)).mono ?_
  rintro e w2 ⟨v2, rfl, hr2, hb2⟩
  have hr3 := hr2.base (b' := w.heap.size) (by omega)
  obtain ⟨ad2, cap2, rfl, _, _⟩ := hr3.form
  have HR3 : Hid (RowX w2 w.heap.size (.slice ad2 (l.map (putD X)).length cap2) (l.map (putD X))) := hr3
  clear hr2 hr3
  obtain ⟨m, hm⟩ : ∃ m, m = (l.map (putD X)).length := ⟨_, rfl⟩
  rw [← hm] at HR3 ⊢
  clear hm
  go_wp2
  go_ret
  exact ⟨_, rfl, HR3.out, hbl.out.trans hb2⟩
set_option maxRecDepth 20000 in
theorem proto5 (X Y : Bx) (w : World) (b : BdX X) (c : BdX Y) :
    Calls Try.prog 85 #[.agg #[.int .u32 (X.a.1 : Int), .int .u32 (X.a.2 : Int), .int .u32 (X.b.1 : Int), .int .u32 (X.b.2 : Int), .int .u16 (X.c.1 : Int), .int .u16 (X.c.2 : Int), .int .u16 (X.d.1 : Int), .int .u16 (X.d.2 : Int), .int .u8 (X.m.1 : Int), .int .u8 (X.m.2 : Int)], .agg #[.int .u32 (Y.a.1 : Int), .int .u32 (Y.a.2 : Int), .int .u32 (Y.b.1 : Int), .int .u32 (Y.b.2 : Int), .int .u16 (Y.c.1 : Int), .int .u16 (Y.c.2 : Int), .int .u16 (Y.d.1 : Int), .int .u16 (Y.d.2 : Int), .int .u8 (Y.m.1 : Int), .int .u8 (Y.m.2 : Int)]] w fun e w' => ∃ v' : Value, e = .returned v' ∧ RowX w' w.heap.size v' ((lessM X.m.1 X.m.2 Y.m.1 Y.m.2).map (putM X)) ∧ Below w.heap.size w w' := by
  have hM : ∀ W, Calls Try.prog 87 #[.agg #[.int .u8 (X.m.1 : Int), .int .u8 (X.m.2 : Int)], .agg #[.int .u8 (Y.m.1 : Int), .int .u8 (Y.m.2 : Int)]] W fun e w' => ∃ v' : Value, e = .returned v' ∧ Row w' W.heap.size v' (lessM X.m.1 X.m.2 Y.m.1 Y.m.2) ∧ Below W.heap.size W w' := fun W => lessC X.m.1 X.m.2 Y.m.1 Y.m.2 W b.2.2.2.2.2.2.2.2.1 b.2.2.2.2.2.2.2.2.2 c.2.2.2.2.2.2.2.2.1 c.2.2.2.2.2.2.2.2.2
  have hlen : Hid ((lessM X.m.1 X.m.2 Y.m.1 Y.m.2).length ≤ 100) := by have := lessM_le X.m.1 X.m.2 Y.m.1 Y.m.2; show _ ≤ _; omega
  generalize lessM X.m.1 X.m.2 Y.m.1 Y.m.2 = l at hM hlen ⊢
  clear b c
  go_enter Try.func85, Try.ntmps85
  go_wp2_with (fail)
  refine (hM _).mono ?_
  rintro e w1 ⟨v1, rfl, hr1, hb1⟩
  have hX : Hid (w1.heap[w.heap.size]? = some (.cells #[.int .u32 (X.a.1 : Int), .int .u32 (X.a.2 : Int), .int .u32 (X.b.1 : Int), .int .u32 (X.b.2 : Int), .int .u16 (X.c.1 : Int), .int .u16 (X.c.2 : Int), .int .u16 (X.d.1 : Int), .int .u16 (X.d.2 : Int), .int .u8 (X.m.1 : Int), .int .u8 (X.m.2 : Int)] 33)) := blk_on (blk_alloc (blk_new w _) _) hb1
  have hbl : Hid (Below w.heap.size w w1) := by show Below _ _ _; (repeat (first | assumption | exact Below.refl _ _ | refine Below.drew ?_ | refine bel_drewN ?_ _ | refine Below.setCell ?_ (by first | omega | (simp; done) | (simp; omega)) _ | refine Below.alloc ?_ (by first | omega | (simp; done) | (simp; omega)) _ | refine bel_of ?_ (by assumption)))
  have hz1 := hb1.size
  simp at hz1
  obtain ⟨ad, cap, rfl, hcap, _⟩ := hr1.form
  have hR : Hid (Row w1 (w.heap.size + 1) _ l) := hr1.base (by simp)
  clear hb1 hM hr1
  obtain ⟨n, hn⟩ : ∃ n, n = l.length := ⟨_, rfl⟩
  rw [← hn] at hR hcap hlen ⊢
  have HN : Hid (n = l.length) := hn
  clear hn
  go_wp2_with (fail)
  refine (each_proto w.heap.size X l _ (w.heap.size + 1) _ hR.out (by omega) hX.out (by rw [← HN.out]; exact hlen.out)).mono ?_
  rintro e w2 ⟨v2, rfl, hr2, hb2⟩
  have hr3 := hr2.base (b' := w.heap.size) (by omega)
  obtain ⟨ad2, cap2, rfl, _, _⟩ := hr3.form
  have HR3 : Hid (RowX w2 w.heap.size (.slice ad2 (l.map (putM X)).length cap2) (l.map (putM X))) := hr3
  clear hr2 hr3
  obtain ⟨m, hm⟩ : ∃ m, m = (l.map (putM X)).length := ⟨_, rfl⟩
  rw [← hm] at HR3 ⊢
  clear hm
  go_wp2
  go_ret
  exact ⟨_, rfl, HR3.out, hbl.out.trans hb2⟩
end Go.Proofs.Ythggiblkehcfaaa
