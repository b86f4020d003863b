/-
  Whole, Less of package box. Written by tools/mkBxM.py.
-/
import Derived.Test.YthggiblkehcfaaaBxM
import Derived.Test.YthggiblkehcfaaaBxC
import Derived.Test.YthggiblkehcfaaaBxL
namespace Go.Proofs.Ythggiblkehcfaaa
open Go.RowKit
set_option linter.unusedVariables false
set_option linter.unusedSimpArgs false

theorem wholeXC : WholeC := by
  intro w
  go_enter Try.func9, Try.ntmps9
  go_wp2
  exact bodyPost_ret (v := .agg #[.int .u32 (wholeX.a.1 : Int), .int .u32 (wholeX.a.2 : Int), .int .u32 (wholeX.b.1 : Int), .int .u32 (wholeX.b.2 : Int), .int .u16 (wholeX.c.1 : Int), .int .u16 (wholeX.c.2 : Int), .int .u16 (wholeX.d.1 : Int), .int .u16 (wholeX.d.2 : Int), .int .u8 (wholeX.m.1 : Int), .int .u8 (wholeX.m.2 : Int)]) (by simp [results, Try.results9, go_sem, wholeX]) rfl ⟨rfl, by (repeat (first | assumption | exact Below.refl _ _ | refine Below.drew ?_ | refine bel_drewN ?_ _ | refine Below.setCell ?_ (by first | omega | (simp; done) | (simp; omega)) _ | refine Below.alloc ?_ (by first | omega | (simp; done) | (simp; omega)) _ | refine bel_of ?_ (by assumption)))⟩
/-- The parts of the first k steps. -/
def lsS (Z Y : Bx) : Nat → List Bx
  | 0 => (cutI Z.a Y.a).map (putA Z)
  | 1 => (cutI Z.b Y.b).map (putB Z)
  | 2 => (cutI Z.c Y.c).map (putC Z)
  | 3 => (cutI Z.d Y.d).map (putD Z)
  | _ => (lessM Z.m.1 Z.m.2 Y.m.1 Y.m.2).map (putM Z)
def lsK (X Y : Bx) : Nat → List Bx
  | 0 => []
  | k + 1 => lsK X Y k ++ lsS (mtK X Y k) Y k
theorem lsK_five (X Y : Bx) : lsK X Y 5 = lessB X Y := by
  show ((((([] ++ _) ++ _) ++ _) ++ _) ++ _) = _
  rw [List.nil_append, List.append_assoc, List.append_assoc, List.append_assoc]
  rfl
theorem lsS_len (Z Y : Bx) : ∀ k, (lsS Z Y k).length ≤ 8 := by
  intro k
  have h1 := cutI_len Z.a Y.a
  have h2 := cutI_len Z.b Y.b
  have h3 := cutI_len Z.c Y.c
  have h4 := cutI_len Z.d Y.d
  have h5 := lessM_le Z.m.1 Z.m.2 Y.m.1 Y.m.2
  match k with
  | 0 => show ((cutI Z.a Y.a).map _).length ≤ 8; rw [List.length_map]; omega
  | 1 => show ((cutI Z.b Y.b).map _).length ≤ 8; rw [List.length_map]; omega
  | 2 => show ((cutI Z.c Y.c).map _).length ≤ 8; rw [List.length_map]; omega
  | 3 => show ((cutI Z.d Y.d).map _).length ≤ 8; rw [List.length_map]; omega
  | _ + 4 => show ((lessM Z.m.1 Z.m.2 Y.m.1 Y.m.2).map _).length ≤ 8; rw [List.length_map]; omega
theorem lsK_len (X Y : Bx) : ∀ k, (lsK X Y k).length ≤ 8 * k
  | 0 => Nat.le_refl _
  | k + 1 => by
    show (lsK X Y k ++ lsS (mtK X Y k) Y k).length ≤ _
    rw [List.length_append]
    have := lsK_len X Y k
    have := lsS_len (mtK X Y k) Y k
    omega
theorem blk_grown {w w' : World} {own : Option Nat} (h : w.grownBy w' own) {k : Nat} {o : Obj} (hk : w.heap[k]? = some o) (hn : some k ≠ own) : w'.heap[k]? = some o := by
  rw [h.block k (blk_lt hk) hn]; exact hk
set_option maxRecDepth 20000 in
set_option maxHeartbeats 4000000 in
theorem lessXC : LessC := by
  intro X Y w bX bY
  have hC1 := fun W => checkC X W bX
  have hC2 := fun W => checkC Y W bY
  have hM := fun W => meetXC X Y W bX bY
  have HBX : Hid (BdX X) := bX
  have HBY : Hid (BdX Y) := bY
  clear bX bY
  cases hx : okX X
  · have hn : ¬ chkX X = 0 := fun e => by rw [chkX_ok, hx] at e; cases e
    have hd : decide (chkX X = 0) = false := decide_eq_false hn
    have HE : Hid (lessX X Y = []) := by show _ = _; unfold lessX; rw [hx]; rfl
    generalize chkX X = cc at *
    clear hx hC2 hM
    go_enter Try.func25, Try.ntmps25
    go_wp2_with (fail)
    refine (hC1 _).mono ?_
    rintro e w1 ⟨rfl, hb1⟩
    go_wp2_with (fail)
    go_ret
    exact ⟨_, rfl, by rw [HE.out]; exact RowX.nil _ _, by (repeat (first | assumption | exact Below.refl _ _ | refine Below.drew ?_ | refine bel_drewN ?_ _ | refine Below.setCell ?_ (by first | omega | (simp; done) | (simp; omega)) _ | refine Below.alloc ?_ (by first | omega | (simp; done) | (simp; omega)) _ | refine bel_of ?_ (by assumption)))⟩
  · rw [chkX_ok.2 hx] at hC1
    cases hy : okX Y
    · have hn : ¬ chkX Y = 0 := fun e => by rw [chkX_ok, hy] at e; cases e
      have hd : decide (chkX Y = 0) = false := decide_eq_false hn
      have HE : Hid (lessX X Y = []) := by show _ = _; unfold lessX; rw [hx, hy]; rfl
      generalize chkX Y = cc at *
      clear hx hy hM
      go_enter Try.func25, Try.ntmps25
      go_wp2_with (fail)
      refine (hC1 _).mono ?_
      rintro e w1 ⟨rfl, hb1⟩
      have hY1 : w1.heap[w.heap.size + 1]? = some (.cells #[.int .u32 (Y.a.1 : Int), .int .u32 (Y.a.2 : Int), .int .u32 (Y.b.1 : Int), .int .u32 (Y.b.2 : Int), .int .u16 (Y.c.1 : Int), .int .u16 (Y.c.2 : Int), .int .u16 (Y.d.1 : Int), .int .u16 (Y.d.2 : Int), .int .u8 (Y.m.1 : Int), .int .u8 (Y.m.2 : Int)] 33) := blk_on (by simpa using blk_new (w.alloc (.cells #[.int .u32 (X.a.1 : Int), .int .u32 (X.a.2 : Int), .int .u32 (X.b.1 : Int), .int .u32 (X.b.2 : Int), .int .u16 (X.c.1 : Int), .int .u16 (X.c.2 : Int), .int .u16 (X.d.1 : Int), .int .u16 (X.d.2 : Int), .int .u8 (X.m.1 : Int), .int .u8 (X.m.2 : Int)] 33)) (.cells #[.int .u32 (Y.a.1 : Int), .int .u32 (Y.a.2 : Int), .int .u32 (Y.b.1 : Int), .int .u32 (Y.b.2 : Int), .int .u16 (Y.c.1 : Int), .int .u16 (Y.c.2 : Int), .int .u16 (Y.d.1 : Int), .int .u16 (Y.d.2 : Int), .int .u8 (Y.m.1 : Int), .int .u8 (Y.m.2 : Int)] 33)) hb1
      obtain ⟨c0, c1, c2, c3, c4, c5, c6, c7, c8, c9⟩ := blk10 hY1
      have hbl : Hid (Below w.heap.size w w1) := by show Below _ _ _; (repeat (first | assumption | exact Below.refl _ _ | refine Below.drew ?_ | refine bel_drewN ?_ _ | refine Below.setCell ?_ (by first | omega | (simp; done) | (simp; omega)) _ | refine Below.alloc ?_ (by first | omega | (simp; done) | (simp; omega)) _ | refine bel_of ?_ (by assumption)))
      clear hb1 hY1 hC1
      go_wp2_with (fail)
      refine (hC2 _).mono ?_
      rintro e w2 ⟨rfl, hb2⟩
      have hbl2 : Hid (Below w.heap.size w w2) := hbl.out.trans (hb2.mono hbl.out.size)
      clear hb2 hC2
      go_wp2_with (fail)
      go_ret
      exact ⟨_, rfl, by rw [HE.out]; exact RowX.nil _ _, hbl2.out⟩
    · rw [chkX_ok.2 hy] at hC2
      have HE0 : Hid (lessX X Y = if bothX X Y then lessB X Y else [X]) := by show _ = _; unfold lessX; rw [hx, hy]; rfl
      clear hx hy
      go_enter Try.func25, Try.ntmps25
      go_wp2_with (fail)
      refine (hC1 _).mono ?_
      rintro e w1 ⟨rfl, hb1⟩
      have hX1 := blk_on (blk_alloc (blk_new w (.cells #[.int .u32 (X.a.1 : Int), .int .u32 (X.a.2 : Int), .int .u32 (X.b.1 : Int), .int .u32 (X.b.2 : Int), .int .u16 (X.c.1 : Int), .int .u16 (X.c.2 : Int), .int .u16 (X.d.1 : Int), .int .u16 (X.d.2 : Int), .int .u8 (X.m.1 : Int), .int .u8 (X.m.2 : Int)] 33)) (.cells #[.int .u32 (Y.a.1 : Int), .int .u32 (Y.a.2 : Int), .int .u32 (Y.b.1 : Int), .int .u32 (Y.b.2 : Int), .int .u16 (Y.c.1 : Int), .int .u16 (Y.c.2 : Int), .int .u16 (Y.d.1 : Int), .int .u16 (Y.d.2 : Int), .int .u8 (Y.m.1 : Int), .int .u8 (Y.m.2 : Int)] 33)) hb1
      have hY1 : w1.heap[w.heap.size + 1]? = some (.cells #[.int .u32 (Y.a.1 : Int), .int .u32 (Y.a.2 : Int), .int .u32 (Y.b.1 : Int), .int .u32 (Y.b.2 : Int), .int .u16 (Y.c.1 : Int), .int .u16 (Y.c.2 : Int), .int .u16 (Y.d.1 : Int), .int .u16 (Y.d.2 : Int), .int .u8 (Y.m.1 : Int), .int .u8 (Y.m.2 : Int)] 33) := blk_on (by simpa using blk_new (w.alloc (.cells #[.int .u32 (X.a.1 : Int), .int .u32 (X.a.2 : Int), .int .u32 (X.b.1 : Int), .int .u32 (X.b.2 : Int), .int .u16 (X.c.1 : Int), .int .u16 (X.c.2 : Int), .int .u16 (X.d.1 : Int), .int .u16 (X.d.2 : Int), .int .u8 (X.m.1 : Int), .int .u8 (X.m.2 : Int)] 33)) (.cells #[.int .u32 (Y.a.1 : Int), .int .u32 (Y.a.2 : Int), .int .u32 (Y.b.1 : Int), .int .u32 (Y.b.2 : Int), .int .u16 (Y.c.1 : Int), .int .u16 (Y.c.2 : Int), .int .u16 (Y.d.1 : Int), .int .u16 (Y.d.2 : Int), .int .u8 (Y.m.1 : Int), .int .u8 (Y.m.2 : Int)] 33)) hb1
      obtain ⟨c0, c1, c2, c3, c4, c5, c6, c7, c8, c9⟩ := blk10 hY1
      have HX1 : Hid (w1.heap[w.heap.size]? = some (.cells #[.int .u32 (X.a.1 : Int), .int .u32 (X.a.2 : Int), .int .u32 (X.b.1 : Int), .int .u32 (X.b.2 : Int), .int .u16 (X.c.1 : Int), .int .u16 (X.c.2 : Int), .int .u16 (X.d.1 : Int), .int .u16 (X.d.2 : Int), .int .u8 (X.m.1 : Int), .int .u8 (X.m.2 : Int)] 33)) := hX1
      have HY1 : Hid (w1.heap[w.heap.size + 1]? = some (.cells #[.int .u32 (Y.a.1 : Int), .int .u32 (Y.a.2 : Int), .int .u32 (Y.b.1 : Int), .int .u32 (Y.b.2 : Int), .int .u16 (Y.c.1 : Int), .int .u16 (Y.c.2 : Int), .int .u16 (Y.d.1 : Int), .int .u16 (Y.d.2 : Int), .int .u8 (Y.m.1 : Int), .int .u8 (Y.m.2 : Int)] 33)) := hY1
      have hbl : Hid (Below w.heap.size w w1) := by show Below _ _ _; (repeat (first | assumption | exact Below.refl _ _ | refine Below.drew ?_ | refine bel_drewN ?_ _ | refine Below.setCell ?_ (by first | omega | (simp; done) | (simp; omega)) _ | refine Below.alloc ?_ (by first | omega | (simp; done) | (simp; omega)) _ | refine bel_of ?_ (by assumption)))
      clear hb1 hY1 hX1 hC1
      go_wp2_with (fail)
      refine (hC2 _).mono ?_
      rintro e w2 ⟨rfl, hb2⟩
      have HX2 : Hid (w2.heap[w.heap.size]? = some (.cells #[.int .u32 (X.a.1 : Int), .int .u32 (X.a.2 : Int), .int .u32 (X.b.1 : Int), .int .u32 (X.b.2 : Int), .int .u16 (X.c.1 : Int), .int .u16 (X.c.2 : Int), .int .u16 (X.d.1 : Int), .int .u16 (X.d.2 : Int), .int .u8 (X.m.1 : Int), .int .u8 (X.m.2 : Int)] 33)) := blk_on HX1.out hb2
      have HY2 : Hid (w2.heap[w.heap.size + 1]? = some (.cells #[.int .u32 (Y.a.1 : Int), .int .u32 (Y.a.2 : Int), .int .u32 (Y.b.1 : Int), .int .u32 (Y.b.2 : Int), .int .u16 (Y.c.1 : Int), .int .u16 (Y.c.2 : Int), .int .u16 (Y.d.1 : Int), .int .u16 (Y.d.2 : Int), .int .u8 (Y.m.1 : Int), .int .u8 (Y.m.2 : Int)] 33)) := blk_on HY1.out hb2
      have hbl2 : Hid (Below w.heap.size w w2) := hbl.out.trans (hb2.mono hbl.out.size)
      clear hb2 hC2 c0 c1 c2 c3 c4 c5 c6 c7 c8 c9 HX1 HY1 hbl
      obtain ⟨c0, c1, c2, c3, c4, c5, c6, c7, c8, c9⟩ := blk10 HX2.out
      obtain ⟨d0, d1, d2, d3, d4, d5, d6, d7, d8, d9⟩ := blk10 HY2.out
      go_wp2_with (fail)
      refine (hM _).mono ?_
      rintro e w3 ⟨rfl, hb3⟩
      have HX3 : Hid (w3.heap[w.heap.size]? = some (.cells #[.int .u32 (X.a.1 : Int), .int .u32 (X.a.2 : Int), .int .u32 (X.b.1 : Int), .int .u32 (X.b.2 : Int), .int .u16 (X.c.1 : Int), .int .u16 (X.c.2 : Int), .int .u16 (X.d.1 : Int), .int .u16 (X.d.2 : Int), .int .u8 (X.m.1 : Int), .int .u8 (X.m.2 : Int)] 33)) := blk_on HX2.out hb3
      have HY3 : Hid (w3.heap[w.heap.size + 1]? = some (.cells #[.int .u32 (Y.a.1 : Int), .int .u32 (Y.a.2 : Int), .int .u32 (Y.b.1 : Int), .int .u32 (Y.b.2 : Int), .int .u16 (Y.c.1 : Int), .int .u16 (Y.c.2 : Int), .int .u16 (Y.d.1 : Int), .int .u16 (Y.d.2 : Int), .int .u8 (Y.m.1 : Int), .int .u8 (Y.m.2 : Int)] 33)) := blk_on HY2.out hb3
      have hbl3 : Hid (Below w.heap.size w w3) := hbl2.out.trans (hb3.mono hbl2.out.size)
      clear hb3 hM c0 c1 c2 c3 c4 c5 c6 c7 c8 c9 d0 d1 d2 d3 d4 d5 d6 d7 d8 d9 HX2 HY2 hbl2
      obtain ⟨c0, c1, c2, c3, c4, c5, c6, c7, c8, c9⟩ := blk10 HX3.out
      have hlt3 := blk_lt HY3.out
      have hlt3' : w.heap.size < w3.heap.size := by omega
      have n3 : ¬ w.heap.size = w3.heap.size := by omega
      generalize meetX X Y = M at *
      cases hb : bothX X Y
      · have HE : Hid (lessX X Y = [X]) := by show _ = _; rw [HE0.out, hb]; rfl
        clear hb HE0
        go_wp2_with (fail)
        go_ret
        exact ⟨_, rfl, by rw [HE.out]; have e := RowX.one (w3.alloc (.cells #[.int .u32 (M.a.1 : Int), .int .u32 (M.a.2 : Int), .int .u32 (M.b.1 : Int), .int .u32 (M.b.2 : Int), .int .u16 (M.c.1 : Int), .int .u16 (M.c.2 : Int), .int .u16 (M.d.1 : Int), .int .u16 (M.d.2 : Int), .int .u8 (M.m.1 : Int), .int .u8 (M.m.2 : Int)] 33)) w.heap.size X (by simp; omega); rw [World.size_alloc] at e; exact e, (hbl3.out.alloc (by omega) _).alloc (by simp; omega) _⟩
      · have HE : Hid (lessX X Y = lessB X Y) := by show _ = _; rw [HE0.out, hb]; rfl
        have HK : Hid (mkK X Y 5) := (both_five X Y).1 hb
        clear hb HE0
        go_wp2_with (fail)
        refine (fieldsX _).mono ?_
        rintro e w4 ⟨rfl, hb4⟩
        obtain ⟨B, hB⟩ : ∃ B, B = w3.heap.size + 1 := ⟨_, rfl⟩
        have HZ4 : Hid (w4.heap[B]? = some (.cells #[.int .u32 (X.a.1 : Int), .int .u32 (X.a.2 : Int), .int .u32 (X.b.1 : Int), .int .u32 (X.b.2 : Int), .int .u16 (X.c.1 : Int), .int .u16 (X.c.2 : Int), .int .u16 (X.d.1 : Int), .int .u16 (X.d.2 : Int), .int .u8 (X.m.1 : Int), .int .u8 (X.m.2 : Int)] 33)) := blk_on (by rw [hB]; simpa using blk_new (w3.alloc (.cells #[.int .u32 (M.a.1 : Int), .int .u32 (M.a.2 : Int), .int .u32 (M.b.1 : Int), .int .u32 (M.b.2 : Int), .int .u16 (M.c.1 : Int), .int .u16 (M.c.2 : Int), .int .u16 (M.d.1 : Int), .int .u16 (M.d.2 : Int), .int .u8 (M.m.1 : Int), .int .u8 (M.m.2 : Int)] 33)) (.cells #[.int .u32 (X.a.1 : Int), .int .u32 (X.a.2 : Int), .int .u32 (X.b.1 : Int), .int .u32 (X.b.2 : Int), .int .u16 (X.c.1 : Int), .int .u16 (X.c.2 : Int), .int .u16 (X.d.1 : Int), .int .u16 (X.d.2 : Int), .int .u8 (X.m.1 : Int), .int .u8 (X.m.2 : Int)] 33)) hb4
        have HY4 : Hid (w4.heap[w.heap.size + 1]? = some (.cells #[.int .u32 (Y.a.1 : Int), .int .u32 (Y.a.2 : Int), .int .u32 (Y.b.1 : Int), .int .u32 (Y.b.2 : Int), .int .u16 (Y.c.1 : Int), .int .u16 (Y.c.2 : Int), .int .u16 (Y.d.1 : Int), .int .u16 (Y.d.2 : Int), .int .u8 (Y.m.1 : Int), .int .u8 (Y.m.2 : Int)] 33)) := blk_on (blk_alloc (blk_alloc HY3.out _) _) hb4
        have hbl4 : Hid (Below w.heap.size w w4) := ((hbl3.out.alloc (by omega) _).alloc (by simp; omega) _).trans (hb4.mono (by simp; omega))
        rw [← hB]
        have hBl : w.heap.size + 1 < B := by omega
        clear hb4 hB c0 c1 c2 c3 c4 c5 c6 c7 c8 c9 hlt3 hlt3' n3 HX3 HY3 hbl3
        go_wp2_with (fail)
        go_loopw [7, 31] (fun pv iv wr => ∃ (k : Nat) (Z : Bx), k ≤ 5 ∧ iv = .int .i64 (k : Int) ∧ Hid (Z = mtK X Y k) ∧ Hid (RowX wr (B + 1) pv (lsK X Y k)) ∧ Hid (wr.heap[w.heap.size + 1]? = some (.cells #[.int .u32 (Y.a.1 : Int), .int .u32 (Y.a.2 : Int), .int .u32 (Y.b.1 : Int), .int .u32 (Y.b.2 : Int), .int .u16 (Y.c.1 : Int), .int .u16 (Y.c.2 : Int), .int .u16 (Y.d.1 : Int), .int .u16 (Y.d.2 : Int), .int .u8 (Y.m.1 : Int), .int .u8 (Y.m.2 : Int)] 33)) ∧ Hid (wr.heap[B]? = some (.cells #[.int .u32 (Z.a.1 : Int), .int .u32 (Z.a.2 : Int), .int .u32 (Z.b.1 : Int), .int .u32 (Z.b.2 : Int), .int .u16 (Z.c.1 : Int), .int .u16 (Z.c.2 : Int), .int .u16 (Z.d.1 : Int), .int .u16 (Z.d.2 : Int), .int .u8 (Z.m.1 : Int), .int .u8 (Z.m.2 : Int)] 33)) ∧ Hid (Below w.heap.size w wr)) (fun _ iv _ => 5 - (intOf iv).toNat)
        case atStart => exact ⟨0, X, Nat.zero_le _, rfl, rfl, RowX.nil _ _, HY4.out, HZ4.out, hbl4.out⟩
        case round =>
          clear HY4 HZ4 hbl4
          obtain ⟨k, Z, hk, rfl, hg, hrow, hY, hZ, hbr⟩ := hrel
          obtain ⟨c0, c1, c2, c3, c4, c5, c6, c7, c8, c9⟩ := blk10 hY.out
          obtain ⟨d0, d1, d2, d3, d4, d5, d6, d7, d8, d9⟩ := blk10 hZ.out
          have hlt := blk_lt hZ.out
          have hlt1 : w.heap.size + 1 < wr.heap.size := by omega
          have n0 : ¬ w.heap.size + 1 = wr.heap.size := by omega
          have n1 : ¬ B = wr.heap.size := by omega
          have hbZ : Hid (BdX Z) := by show BdX Z; rw [hg.out]; exact mtK_bd HBX.out HBY.out k
          have hle := lsK_len X Y k
          have HLE : Hid ((lsK X Y k).length ≤ 40) := by show _ ≤ _; omega
          obtain ⟨ad, cap, rfl, hcap, _⟩ := hrow.out.form
          have HRow : Hid (RowX wr (B + 1) (.slice ad (lsK X Y k).length cap) (lsK X Y k)) := hrow.out
          have HOwn : Hid (∀ j, (Value.slice ad (lsK X Y k).length cap).ownBlock = some j → B + 1 ≤ j ∧ j < wr.heap.size) := fun j hj => HRow.out.lt j hj
          obtain ⟨ln, hln⟩ : ∃ ln, ln = (lsK X Y k).length := ⟨_, rfl⟩
          rw [← hln] at HRow HOwn HLE hcap ⊢
          have HLN : Hid (ln = (lsK X Y k).length) := hln
          clear hrow hle hln
          obtain rfl | rfl | rfl | rfl | rfl | rfl : k = 0 ∨ k = 1 ∨ k = 2 ∨ k = 3 ∨ k = 4 ∨ k = 5 := by omega
          · have hix := idx_src
            have hfx : Z.a = X.a := by rw [hg.out]; rfl
            have hc : okI (meetI Z.a Y.a) = true := by rw [hfx]; exact HK.out.1 (by decide)
            have hM := fun W => src4_yes Z Y W hbZ.out HBY.out hc
            have hL := fun W => src5 Z Y W hbZ.out HBY.out
            obtain ⟨P, hP⟩ : ∃ P : Nat × Nat, P = meetI Z.a Y.a := ⟨_, rfl⟩
            rw [← hP] at hM
            have HZ : Hid ((⟨P, Z.b, Z.c, Z.d, Z.m⟩ : Bx) = mtK X Y 1) := by show _ = _; rw [hP, hg.out]; rfl
            obtain ⟨l, hl⟩ : ∃ l, l = (cutI Z.a Y.a).map (putA Z) := ⟨_, rfl⟩
            rw [← hl] at hL
            have HL : Hid (lsK X Y 1 = lsK X Y 0 ++ l) := by show _ = _; rw [hl, hg.out]; rfl
            have HLL : Hid (l.length ≤ 8) := by show _ ≤ _; have := lsS_len Z Y 0; rw [hl]; exact this
            clear hc hfx hP hl
            go_wp2_with (fail)
            refine (hL _).mono ?_
            rintro e w5 ⟨v5, rfl, hr5, hb5⟩
            obtain ⟨ad5, cap5, rfl, hcap5, _⟩ := hr5.form
            have HR5 : Hid (RowX w5 (wr.alloc (.cells #[.func (.func 44) #[] #[], .func (.func 46) #[] #[], .func (.func 48) #[] #[], .func (.func 49) #[] #[], .func (.func 51) #[] #[]] 55)).heap.size (.slice ad5 l.length cap5) l) := hr5
            have HP5 : Hid (RowX w5 (B + 1) (.slice ad ln cap) (lsK X Y 0)) := (HRow.out.alloc _).on hb5
            have HF5 : Hid (w5.heap[wr.heap.size]? = some (.cells #[.func (.func 44) #[] #[], .func (.func 46) #[] #[], .func (.func 48) #[] #[], .func (.func 49) #[] #[], .func (.func 51) #[] #[]] 55)) := blk_on (blk_new wr _) hb5
            have HY5 : Hid (w5.heap[w.heap.size + 1]? = some (.cells #[.int .u32 (Y.a.1 : Int), .int .u32 (Y.a.2 : Int), .int .u32 (Y.b.1 : Int), .int .u32 (Y.b.2 : Int), .int .u16 (Y.c.1 : Int), .int .u16 (Y.c.2 : Int), .int .u16 (Y.d.1 : Int), .int .u16 (Y.d.2 : Int), .int .u8 (Y.m.1 : Int), .int .u8 (Y.m.2 : Int)] 33)) := blk_on (blk_alloc hY.out _) hb5
            have HZ5 : Hid (w5.heap[B]? = some (.cells #[.int .u32 (Z.a.1 : Int), .int .u32 (Z.a.2 : Int), .int .u32 (Z.b.1 : Int), .int .u32 (Z.b.2 : Int), .int .u16 (Z.c.1 : Int), .int .u16 (Z.c.2 : Int), .int .u16 (Z.d.1 : Int), .int .u16 (Z.d.2 : Int), .int .u8 (Z.m.1 : Int), .int .u8 (Z.m.2 : Int)] 33)) := blk_on (blk_alloc hZ.out _) hb5
            have hbw5 : Hid (Below w.heap.size w w5) := (hbr.out.alloc (by omega) _).trans (hb5.mono (by simp; omega))
            have hz5 := hb5.size
            simp at hz5
            obtain ⟨m5, hm5⟩ : ∃ m5, m5 = l.length := ⟨_, rfl⟩
            rw [← hm5] at HR5 HLL hcap5 ⊢
            have HM5 : Hid (m5 = l.length) := hm5
            clear hb5 hr5 hL hm5 c0 c1 c2 c3 c4 c5 c6 c7 c8 c9 d0 d1 d2 d3 d4 d5 d6 d7 d8 d9 hY hZ
            go_wp2_with (at_builtin; refine wpList_appendX rfl (.tmp 34) (.tmp 39) rfl (B + 1) _ (lsK X Y 0) rfl HP5.out _ _ l rfl HR5.out (by omega) (by rw [← HLN.out, ← HM5.out]; have := HLE.out; have := HLL.out; omega) ?_; intro v6 w6 hrow6 hgr6; have HR6 : Hid (RowX w6 (B + 1) v6 (lsK X Y 1)) := (by show RowX _ _ _ _; rw [HL.out]; exact hrow6); have HF6 := blk_grown hgr6 HF5.out (fun e => by have := (HOwn.out _ e.symm).2; omega); have HY6 := blk_grown hgr6 HY5.out (fun e => by have := (HOwn.out _ e.symm).1; omega); have HZ6 := blk_grown hgr6 HZ5.out (fun e => by have := (HOwn.out _ e.symm).1; omega); have hbw6 : Hid (Below w.heap.size w w6) := hbw5.out.grown hgr6 hbw5.out.size (fun j hj => by have := (HOwn.out j hj).1; omega); obtain ⟨f0, f1, f2, f3, f4⟩ := blk5 HF6; obtain ⟨c0, c1, c2, c3, c4, c5, c6, c7, c8, c9⟩ := blk10 HY6; obtain ⟨d0, d1, d2, d3, d4, d5, d6, d7, d8, d9⟩ := blk10 HZ6; clear hrow6 hgr6 HF6)
            refine (hM _).mono ?_
            rintro e w7 ⟨rfl, hb7⟩
            have HR7 : Hid (RowX w7 (B + 1) v6 (lsK X Y 1)) := HR6.out.on hb7
            have HY7 : Hid (w7.heap[w.heap.size + 1]? = some (.cells #[.int .u32 (Y.a.1 : Int), .int .u32 (Y.a.2 : Int), .int .u32 (Y.b.1 : Int), .int .u32 (Y.b.2 : Int), .int .u16 (Y.c.1 : Int), .int .u16 (Y.c.2 : Int), .int .u16 (Y.d.1 : Int), .int .u16 (Y.d.2 : Int), .int .u8 (Y.m.1 : Int), .int .u8 (Y.m.2 : Int)] 33)) := blk_on HY6 hb7
            have HZ7 := blk_on HZ6 hb7
            have hbw7 : Hid (Below w.heap.size w w7) := hbw6.out.trans (hb7.mono hbw6.out.size)
            clear hb7 hM c0 c1 c2 c3 c4 c5 c6 c7 c8 c9 d0 d1 d2 d3 d4 d5 d6 d7 d8 d9 HR6 HY6 HZ6 f0 f1 f2 f3 f4
            go_wp2_with (refine wpList_store_blk rfl 33 (.tmp 8) (.tmp 47) rfl B 0 #[.int .u32 (P.1 : Int), .int .u32 (P.2 : Int), .int .u32 (Z.b.1 : Int), .int .u32 (Z.b.2 : Int), .int .u16 (Z.c.1 : Int), .int .u16 (Z.c.2 : Int), .int .u16 (Z.d.1 : Int), .int .u16 (Z.d.2 : Int), .int .u8 (Z.m.1 : Int), .int .u8 (Z.m.2 : Int)] #[.int .u32 (P.1 : Int), .int .u32 (P.2 : Int), .int .u32 (Z.b.1 : Int), .int .u32 (Z.b.2 : Int), .int .u16 (Z.c.1 : Int), .int .u16 (Z.c.2 : Int), .int .u16 (Z.d.1 : Int), .int .u16 (Z.d.2 : Int), .int .u8 (Z.m.1 : Int), .int .u8 (Z.m.2 : Int)] rfl rfl 33 _ HZ7 (Nat.le_of_ble_eq_true rfl) rfl (by kernel_rfl) rfl ?_; intro w8 h8 ho8)
            go_roundw
            case rel => exact ⟨1, ⟨P, Z.b, Z.c, Z.d, Z.m⟩, by omega, rfl, HZ.out, HR7.out.k1 (K1.of_only ho8) (by omega), by show _ = _; rw [ho8.block _ (by omega)]; exact HY7.out, h8, hbw7.out.trans (ho8.below (by omega))⟩
            case measure => simp [intOf]
          · have hix := idx_dst
            have hfx : Z.b = X.b := by rw [hg.out]; rfl
            have hc : okI (meetI Z.b Y.b) = true := by rw [hfx]; exact HK.out.2.1 (by decide)
            have hM := fun W => dst4_yes Z Y W hbZ.out HBY.out hc
            have hL := fun W => dst5 Z Y W hbZ.out HBY.out
            obtain ⟨P, hP⟩ : ∃ P : Nat × Nat, P = meetI Z.b Y.b := ⟨_, rfl⟩
            rw [← hP] at hM
            have HZ : Hid ((⟨Z.a, P, Z.c, Z.d, Z.m⟩ : Bx) = mtK X Y 2) := by show _ = _; rw [hP, hg.out]; rfl
            obtain ⟨l, hl⟩ : ∃ l, l = (cutI Z.b Y.b).map (putB Z) := ⟨_, rfl⟩
            rw [← hl] at hL
            have HL : Hid (lsK X Y 2 = lsK X Y 1 ++ l) := by show _ = _; rw [hl, hg.out]; rfl
            have HLL : Hid (l.length ≤ 8) := by show _ ≤ _; have := lsS_len Z Y 1; rw [hl]; exact this
            clear hc hfx hP hl
            go_wp2_with (fail)
            refine (hL _).mono ?_
            rintro e w5 ⟨v5, rfl, hr5, hb5⟩
            obtain ⟨ad5, cap5, rfl, hcap5, _⟩ := hr5.form
            have HR5 : Hid (RowX w5 (wr.alloc (.cells #[.func (.func 55) #[] #[], .func (.func 56) #[] #[], .func (.func 57) #[] #[], .func (.func 58) #[] #[], .func (.func 59) #[] #[]] 55)).heap.size (.slice ad5 l.length cap5) l) := hr5
            have HP5 : Hid (RowX w5 (B + 1) (.slice ad ln cap) (lsK X Y 1)) := (HRow.out.alloc _).on hb5
            have HF5 : Hid (w5.heap[wr.heap.size]? = some (.cells #[.func (.func 55) #[] #[], .func (.func 56) #[] #[], .func (.func 57) #[] #[], .func (.func 58) #[] #[], .func (.func 59) #[] #[]] 55)) := blk_on (blk_new wr _) hb5
            have HY5 : Hid (w5.heap[w.heap.size + 1]? = some (.cells #[.int .u32 (Y.a.1 : Int), .int .u32 (Y.a.2 : Int), .int .u32 (Y.b.1 : Int), .int .u32 (Y.b.2 : Int), .int .u16 (Y.c.1 : Int), .int .u16 (Y.c.2 : Int), .int .u16 (Y.d.1 : Int), .int .u16 (Y.d.2 : Int), .int .u8 (Y.m.1 : Int), .int .u8 (Y.m.2 : Int)] 33)) := blk_on (blk_alloc hY.out _) hb5
            have HZ5 : Hid (w5.heap[B]? = some (.cells #[.int .u32 (Z.a.1 : Int), .int .u32 (Z.a.2 : Int), .int .u32 (Z.b.1 : Int), .int .u32 (Z.b.2 : Int), .int .u16 (Z.c.1 : Int), .int .u16 (Z.c.2 : Int), .int .u16 (Z.d.1 : Int), .int .u16 (Z.d.2 : Int), .int .u8 (Z.m.1 : Int), .int .u8 (Z.m.2 : Int)] 33)) := blk_on (blk_alloc hZ.out _) hb5
            have hbw5 : Hid (Below w.heap.size w w5) := (hbr.out.alloc (by omega) _).trans (hb5.mono (by simp; omega))
            have hz5 := hb5.size
            simp at hz5
            obtain ⟨m5, hm5⟩ : ∃ m5, m5 = l.length := ⟨_, rfl⟩
            rw [← hm5] at HR5 HLL hcap5 ⊢
            have HM5 : Hid (m5 = l.length) := hm5
            clear hb5 hr5 hL hm5 c0 c1 c2 c3 c4 c5 c6 c7 c8 c9 d0 d1 d2 d3 d4 d5 d6 d7 d8 d9 hY hZ
            go_wp2_with (at_builtin; refine wpList_appendX rfl (.tmp 34) (.tmp 39) rfl (B + 1) _ (lsK X Y 1) rfl HP5.out _ _ l rfl HR5.out (by omega) (by rw [← HLN.out, ← HM5.out]; have := HLE.out; have := HLL.out; omega) ?_; intro v6 w6 hrow6 hgr6; have HR6 : Hid (RowX w6 (B + 1) v6 (lsK X Y 2)) := (by show RowX _ _ _ _; rw [HL.out]; exact hrow6); have HF6 := blk_grown hgr6 HF5.out (fun e => by have := (HOwn.out _ e.symm).2; omega); have HY6 := blk_grown hgr6 HY5.out (fun e => by have := (HOwn.out _ e.symm).1; omega); have HZ6 := blk_grown hgr6 HZ5.out (fun e => by have := (HOwn.out _ e.symm).1; omega); have hbw6 : Hid (Below w.heap.size w w6) := hbw5.out.grown hgr6 hbw5.out.size (fun j hj => by have := (HOwn.out j hj).1; omega); obtain ⟨f0, f1, f2, f3, f4⟩ := blk5 HF6; obtain ⟨c0, c1, c2, c3, c4, c5, c6, c7, c8, c9⟩ := blk10 HY6; obtain ⟨d0, d1, d2, d3, d4, d5, d6, d7, d8, d9⟩ := blk10 HZ6; clear hrow6 hgr6 HF6)
            refine (hM _).mono ?_
            rintro e w7 ⟨rfl, hb7⟩
            have HR7 : Hid (RowX w7 (B + 1) v6 (lsK X Y 2)) := HR6.out.on hb7
            have HY7 : Hid (w7.heap[w.heap.size + 1]? = some (.cells #[.int .u32 (Y.a.1 : Int), .int .u32 (Y.a.2 : Int), .int .u32 (Y.b.1 : Int), .int .u32 (Y.b.2 : Int), .int .u16 (Y.c.1 : Int), .int .u16 (Y.c.2 : Int), .int .u16 (Y.d.1 : Int), .int .u16 (Y.d.2 : Int), .int .u8 (Y.m.1 : Int), .int .u8 (Y.m.2 : Int)] 33)) := blk_on HY6 hb7
            have HZ7 := blk_on HZ6 hb7
            have hbw7 : Hid (Below w.heap.size w w7) := hbw6.out.trans (hb7.mono hbw6.out.size)
            clear hb7 hM c0 c1 c2 c3 c4 c5 c6 c7 c8 c9 d0 d1 d2 d3 d4 d5 d6 d7 d8 d9 HR6 HY6 HZ6 f0 f1 f2 f3 f4
            go_wp2_with (refine wpList_store_blk rfl 33 (.tmp 8) (.tmp 47) rfl B 0 #[.int .u32 (Z.a.1 : Int), .int .u32 (Z.a.2 : Int), .int .u32 (P.1 : Int), .int .u32 (P.2 : Int), .int .u16 (Z.c.1 : Int), .int .u16 (Z.c.2 : Int), .int .u16 (Z.d.1 : Int), .int .u16 (Z.d.2 : Int), .int .u8 (Z.m.1 : Int), .int .u8 (Z.m.2 : Int)] #[.int .u32 (Z.a.1 : Int), .int .u32 (Z.a.2 : Int), .int .u32 (P.1 : Int), .int .u32 (P.2 : Int), .int .u16 (Z.c.1 : Int), .int .u16 (Z.c.2 : Int), .int .u16 (Z.d.1 : Int), .int .u16 (Z.d.2 : Int), .int .u8 (Z.m.1 : Int), .int .u8 (Z.m.2 : Int)] rfl rfl 33 _ HZ7 (Nat.le_of_ble_eq_true rfl) rfl (by kernel_rfl) rfl ?_; intro w8 h8 ho8)
            go_roundw
            case rel => exact ⟨2, ⟨Z.a, P, Z.c, Z.d, Z.m⟩, by omega, rfl, HZ.out, HR7.out.k1 (K1.of_only ho8) (by omega), by show _ = _; rw [ho8.block _ (by omega)]; exact HY7.out, h8, hbw7.out.trans (ho8.below (by omega))⟩
            case measure => simp [intOf]
          · have hix := idx_sport
            have hfx : Z.c = X.c := by rw [hg.out]; rfl
            have hc : okI (meetI Z.c Y.c) = true := by rw [hfx]; exact HK.out.2.2.1 (by decide)
            have hM := fun W => sport4_yes Z Y W hbZ.out HBY.out hc
            have hL := fun W => sport5 Z Y W hbZ.out HBY.out hc
            obtain ⟨P, hP⟩ : ∃ P : Nat × Nat, P = meetI Z.c Y.c := ⟨_, rfl⟩
            rw [← hP] at hM
            have HZ : Hid ((⟨Z.a, Z.b, P, Z.d, Z.m⟩ : Bx) = mtK X Y 3) := by show _ = _; rw [hP, hg.out]; rfl
            obtain ⟨l, hl⟩ : ∃ l, l = (cutI Z.c Y.c).map (putC Z) := ⟨_, rfl⟩
            rw [← hl] at hL
            have HL : Hid (lsK X Y 3 = lsK X Y 2 ++ l) := by show _ = _; rw [hl, hg.out]; rfl
            have HLL : Hid (l.length ≤ 8) := by show _ ≤ _; have := lsS_len Z Y 2; rw [hl]; exact this
            clear hc hfx hP hl
            go_wp2_with (fail)
            refine (hL _).mono ?_
            rintro e w5 ⟨v5, rfl, hr5, hb5⟩
            obtain ⟨ad5, cap5, rfl, hcap5, _⟩ := hr5.form
            have HR5 : Hid (RowX w5 (wr.alloc (.cells #[.func (.func 61) #[] #[], .func (.func 63) #[] #[], .func (.func 65) #[] #[], .func (.func 66) #[] #[], .func (.func 68) #[] #[]] 55)).heap.size (.slice ad5 l.length cap5) l) := hr5
            have HP5 : Hid (RowX w5 (B + 1) (.slice ad ln cap) (lsK X Y 2)) := (HRow.out.alloc _).on hb5
            have HF5 : Hid (w5.heap[wr.heap.size]? = some (.cells #[.func (.func 61) #[] #[], .func (.func 63) #[] #[], .func (.func 65) #[] #[], .func (.func 66) #[] #[], .func (.func 68) #[] #[]] 55)) := blk_on (blk_new wr _) hb5
            have HY5 : Hid (w5.heap[w.heap.size + 1]? = some (.cells #[.int .u32 (Y.a.1 : Int), .int .u32 (Y.a.2 : Int), .int .u32 (Y.b.1 : Int), .int .u32 (Y.b.2 : Int), .int .u16 (Y.c.1 : Int), .int .u16 (Y.c.2 : Int), .int .u16 (Y.d.1 : Int), .int .u16 (Y.d.2 : Int), .int .u8 (Y.m.1 : Int), .int .u8 (Y.m.2 : Int)] 33)) := blk_on (blk_alloc hY.out _) hb5
            have HZ5 : Hid (w5.heap[B]? = some (.cells #[.int .u32 (Z.a.1 : Int), .int .u32 (Z.a.2 : Int), .int .u32 (Z.b.1 : Int), .int .u32 (Z.b.2 : Int), .int .u16 (Z.c.1 : Int), .int .u16 (Z.c.2 : Int), .int .u16 (Z.d.1 : Int), .int .u16 (Z.d.2 : Int), .int .u8 (Z.m.1 : Int), .int .u8 (Z.m.2 : Int)] 33)) := blk_on (blk_alloc hZ.out _) hb5
            have hbw5 : Hid (Below w.heap.size w w5) := (hbr.out.alloc (by omega) _).trans (hb5.mono (by simp; omega))
            have hz5 := hb5.size
            simp at hz5
            obtain ⟨m5, hm5⟩ : ∃ m5, m5 = l.length := ⟨_, rfl⟩
            rw [← hm5] at HR5 HLL hcap5 ⊢
            have HM5 : Hid (m5 = l.length) := hm5
            clear hb5 hr5 hL hm5 c0 c1 c2 c3 c4 c5 c6 c7 c8 c9 d0 d1 d2 d3 d4 d5 d6 d7 d8 d9 hY hZ
            go_wp2_with (at_builtin; refine wpList_appendX rfl (.tmp 34) (.tmp 39) rfl (B + 1) _ (lsK X Y 2) rfl HP5.out _ _ l rfl HR5.out (by omega) (by rw [← HLN.out, ← HM5.out]; have := HLE.out; have := HLL.out; omega) ?_; intro v6 w6 hrow6 hgr6; have HR6 : Hid (RowX w6 (B + 1) v6 (lsK X Y 3)) := (by show RowX _ _ _ _; rw [HL.out]; exact hrow6); have HF6 := blk_grown hgr6 HF5.out (fun e => by have := (HOwn.out _ e.symm).2; omega); have HY6 := blk_grown hgr6 HY5.out (fun e => by have := (HOwn.out _ e.symm).1; omega); have HZ6 := blk_grown hgr6 HZ5.out (fun e => by have := (HOwn.out _ e.symm).1; omega); have hbw6 : Hid (Below w.heap.size w w6) := hbw5.out.grown hgr6 hbw5.out.size (fun j hj => by have := (HOwn.out j hj).1; omega); obtain ⟨f0, f1, f2, f3, f4⟩ := blk5 HF6; obtain ⟨c0, c1, c2, c3, c4, c5, c6, c7, c8, c9⟩ := blk10 HY6; obtain ⟨d0, d1, d2, d3, d4, d5, d6, d7, d8, d9⟩ := blk10 HZ6; clear hrow6 hgr6 HF6)
            refine (hM _).mono ?_
            rintro e w7 ⟨rfl, hb7⟩
            have HR7 : Hid (RowX w7 (B + 1) v6 (lsK X Y 3)) := HR6.out.on hb7
            have HY7 : Hid (w7.heap[w.heap.size + 1]? = some (.cells #[.int .u32 (Y.a.1 : Int), .int .u32 (Y.a.2 : Int), .int .u32 (Y.b.1 : Int), .int .u32 (Y.b.2 : Int), .int .u16 (Y.c.1 : Int), .int .u16 (Y.c.2 : Int), .int .u16 (Y.d.1 : Int), .int .u16 (Y.d.2 : Int), .int .u8 (Y.m.1 : Int), .int .u8 (Y.m.2 : Int)] 33)) := blk_on HY6 hb7
            have HZ7 := blk_on HZ6 hb7
            have hbw7 : Hid (Below w.heap.size w w7) := hbw6.out.trans (hb7.mono hbw6.out.size)
            clear hb7 hM c0 c1 c2 c3 c4 c5 c6 c7 c8 c9 d0 d1 d2 d3 d4 d5 d6 d7 d8 d9 HR6 HY6 HZ6 f0 f1 f2 f3 f4
            go_wp2_with (refine wpList_store_blk rfl 33 (.tmp 8) (.tmp 47) rfl B 0 #[.int .u32 (Z.a.1 : Int), .int .u32 (Z.a.2 : Int), .int .u32 (Z.b.1 : Int), .int .u32 (Z.b.2 : Int), .int .u16 (P.1 : Int), .int .u16 (P.2 : Int), .int .u16 (Z.d.1 : Int), .int .u16 (Z.d.2 : Int), .int .u8 (Z.m.1 : Int), .int .u8 (Z.m.2 : Int)] #[.int .u32 (Z.a.1 : Int), .int .u32 (Z.a.2 : Int), .int .u32 (Z.b.1 : Int), .int .u32 (Z.b.2 : Int), .int .u16 (P.1 : Int), .int .u16 (P.2 : Int), .int .u16 (Z.d.1 : Int), .int .u16 (Z.d.2 : Int), .int .u8 (Z.m.1 : Int), .int .u8 (Z.m.2 : Int)] rfl rfl 33 _ HZ7 (Nat.le_of_ble_eq_true rfl) rfl (by kernel_rfl) rfl ?_; intro w8 h8 ho8)
            go_roundw
            case rel => exact ⟨3, ⟨Z.a, Z.b, P, Z.d, Z.m⟩, by omega, rfl, HZ.out, HR7.out.k1 (K1.of_only ho8) (by omega), by show _ = _; rw [ho8.block _ (by omega)]; exact HY7.out, h8, hbw7.out.trans (ho8.below (by omega))⟩
            case measure => simp [intOf]
          · have hix := idx_dport
            have hfx : Z.d = X.d := by rw [hg.out]; rfl
            have hc : okI (meetI Z.d Y.d) = true := by rw [hfx]; exact HK.out.2.2.2.1 (by decide)
            have hM := fun W => dport4_yes Z Y W hbZ.out HBY.out hc
            have hL := fun W => dport5 Z Y W hbZ.out HBY.out hc
            obtain ⟨P, hP⟩ : ∃ P : Nat × Nat, P = meetI Z.d Y.d := ⟨_, rfl⟩
            rw [← hP] at hM
            have HZ : Hid ((⟨Z.a, Z.b, Z.c, P, Z.m⟩ : Bx) = mtK X Y 4) := by show _ = _; rw [hP, hg.out]; rfl
            obtain ⟨l, hl⟩ : ∃ l, l = (cutI Z.d Y.d).map (putD Z) := ⟨_, rfl⟩
            rw [← hl] at hL
            have HL : Hid (lsK X Y 4 = lsK X Y 3 ++ l) := by show _ = _; rw [hl, hg.out]; rfl
            have HLL : Hid (l.length ≤ 8) := by show _ ≤ _; have := lsS_len Z Y 3; rw [hl]; exact this
            clear hc hfx hP hl
            go_wp2_with (fail)
            refine (hL _).mono ?_
            rintro e w5 ⟨v5, rfl, hr5, hb5⟩
            obtain ⟨ad5, cap5, rfl, hcap5, _⟩ := hr5.form
            have HR5 : Hid (RowX w5 (wr.alloc (.cells #[.func (.func 72) #[] #[], .func (.func 73) #[] #[], .func (.func 74) #[] #[], .func (.func 75) #[] #[], .func (.func 76) #[] #[]] 55)).heap.size (.slice ad5 l.length cap5) l) := hr5
            have HP5 : Hid (RowX w5 (B + 1) (.slice ad ln cap) (lsK X Y 3)) := (HRow.out.alloc _).on hb5
            have HF5 : Hid (w5.heap[wr.heap.size]? = some (.cells #[.func (.func 72) #[] #[], .func (.func 73) #[] #[], .func (.func 74) #[] #[], .func (.func 75) #[] #[], .func (.func 76) #[] #[]] 55)) := blk_on (blk_new wr _) hb5
            have HY5 : Hid (w5.heap[w.heap.size + 1]? = some (.cells #[.int .u32 (Y.a.1 : Int), .int .u32 (Y.a.2 : Int), .int .u32 (Y.b.1 : Int), .int .u32 (Y.b.2 : Int), .int .u16 (Y.c.1 : Int), .int .u16 (Y.c.2 : Int), .int .u16 (Y.d.1 : Int), .int .u16 (Y.d.2 : Int), .int .u8 (Y.m.1 : Int), .int .u8 (Y.m.2 : Int)] 33)) := blk_on (blk_alloc hY.out _) hb5
            have HZ5 : Hid (w5.heap[B]? = some (.cells #[.int .u32 (Z.a.1 : Int), .int .u32 (Z.a.2 : Int), .int .u32 (Z.b.1 : Int), .int .u32 (Z.b.2 : Int), .int .u16 (Z.c.1 : Int), .int .u16 (Z.c.2 : Int), .int .u16 (Z.d.1 : Int), .int .u16 (Z.d.2 : Int), .int .u8 (Z.m.1 : Int), .int .u8 (Z.m.2 : Int)] 33)) := blk_on (blk_alloc hZ.out _) hb5
            have hbw5 : Hid (Below w.heap.size w w5) := (hbr.out.alloc (by omega) _).trans (hb5.mono (by simp; omega))
            have hz5 := hb5.size
            simp at hz5
            obtain ⟨m5, hm5⟩ : ∃ m5, m5 = l.length := ⟨_, rfl⟩
            rw [← hm5] at HR5 HLL hcap5 ⊢
            have HM5 : Hid (m5 = l.length) := hm5
            clear hb5 hr5 hL hm5 c0 c1 c2 c3 c4 c5 c6 c7 c8 c9 d0 d1 d2 d3 d4 d5 d6 d7 d8 d9 hY hZ
            go_wp2_with (at_builtin; refine wpList_appendX rfl (.tmp 34) (.tmp 39) rfl (B + 1) _ (lsK X Y 3) rfl HP5.out _ _ l rfl HR5.out (by omega) (by rw [← HLN.out, ← HM5.out]; have := HLE.out; have := HLL.out; omega) ?_; intro v6 w6 hrow6 hgr6; have HR6 : Hid (RowX w6 (B + 1) v6 (lsK X Y 4)) := (by show RowX _ _ _ _; rw [HL.out]; exact hrow6); have HF6 := blk_grown hgr6 HF5.out (fun e => by have := (HOwn.out _ e.symm).2; omega); have HY6 := blk_grown hgr6 HY5.out (fun e => by have := (HOwn.out _ e.symm).1; omega); have HZ6 := blk_grown hgr6 HZ5.out (fun e => by have := (HOwn.out _ e.symm).1; omega); have hbw6 : Hid (Below w.heap.size w w6) := hbw5.out.grown hgr6 hbw5.out.size (fun j hj => by have := (HOwn.out j hj).1; omega); obtain ⟨f0, f1, f2, f3, f4⟩ := blk5 HF6; obtain ⟨c0, c1, c2, c3, c4, c5, c6, c7, c8, c9⟩ := blk10 HY6; obtain ⟨d0, d1, d2, d3, d4, d5, d6, d7, d8, d9⟩ := blk10 HZ6; clear hrow6 hgr6 HF6)
            refine (hM _).mono ?_
            rintro e w7 ⟨rfl, hb7⟩
            have HR7 : Hid (RowX w7 (B + 1) v6 (lsK X Y 4)) := HR6.out.on hb7
            have HY7 : Hid (w7.heap[w.heap.size + 1]? = some (.cells #[.int .u32 (Y.a.1 : Int), .int .u32 (Y.a.2 : Int), .int .u32 (Y.b.1 : Int), .int .u32 (Y.b.2 : Int), .int .u16 (Y.c.1 : Int), .int .u16 (Y.c.2 : Int), .int .u16 (Y.d.1 : Int), .int .u16 (Y.d.2 : Int), .int .u8 (Y.m.1 : Int), .int .u8 (Y.m.2 : Int)] 33)) := blk_on HY6 hb7
            have HZ7 := blk_on HZ6 hb7
            have hbw7 : Hid (Below w.heap.size w w7) := hbw6.out.trans (hb7.mono hbw6.out.size)
            clear hb7 hM c0 c1 c2 c3 c4 c5 c6 c7 c8 c9 d0 d1 d2 d3 d4 d5 d6 d7 d8 d9 HR6 HY6 HZ6 f0 f1 f2 f3 f4
            go_wp2_with (refine wpList_store_blk rfl 33 (.tmp 8) (.tmp 47) rfl B 0 #[.int .u32 (Z.a.1 : Int), .int .u32 (Z.a.2 : Int), .int .u32 (Z.b.1 : Int), .int .u32 (Z.b.2 : Int), .int .u16 (Z.c.1 : Int), .int .u16 (Z.c.2 : Int), .int .u16 (P.1 : Int), .int .u16 (P.2 : Int), .int .u8 (Z.m.1 : Int), .int .u8 (Z.m.2 : Int)] #[.int .u32 (Z.a.1 : Int), .int .u32 (Z.a.2 : Int), .int .u32 (Z.b.1 : Int), .int .u32 (Z.b.2 : Int), .int .u16 (Z.c.1 : Int), .int .u16 (Z.c.2 : Int), .int .u16 (P.1 : Int), .int .u16 (P.2 : Int), .int .u8 (Z.m.1 : Int), .int .u8 (Z.m.2 : Int)] rfl rfl 33 _ HZ7 (Nat.le_of_ble_eq_true rfl) rfl (by kernel_rfl) rfl ?_; intro w8 h8 ho8)
            go_roundw
            case rel => exact ⟨4, ⟨Z.a, Z.b, Z.c, P, Z.m⟩, by omega, rfl, HZ.out, HR7.out.k1 (K1.of_only ho8) (by omega), by show _ = _; rw [ho8.block _ (by omega)]; exact HY7.out, h8, hbw7.out.trans (ho8.below (by omega))⟩
            case measure => simp [intOf]
          · have hix := idx_proto
            have hfx : Z.m = X.m := by rw [hg.out]; rfl
            have hc : (okM Z.m.1 Z.m.2 && okM Y.m.1 Y.m.2 && !apM Z.m.1 Z.m.2 Y.m.1 Y.m.2) = true := by rw [hfx]; exact HK.out.2.2.2.2 (by decide)
            have hM := fun W => proto4_yes Z Y W hbZ.out HBY.out hc
            have hL := fun W => proto5 Z Y W hbZ.out HBY.out
            obtain ⟨P, hP⟩ : ∃ P : Nat × Nat, P = (Z.m.1 ||| Y.m.1, Z.m.2 ||| Y.m.2) := ⟨_, rfl⟩
            rw [← hP] at hM
            have HZ : Hid ((⟨Z.a, Z.b, Z.c, Z.d, P⟩ : Bx) = mtK X Y 5) := by show _ = _; rw [hP, hg.out]; rfl
            obtain ⟨l, hl⟩ : ∃ l, l = (lessM Z.m.1 Z.m.2 Y.m.1 Y.m.2).map (putM Z) := ⟨_, rfl⟩
            rw [← hl] at hL
            have HL : Hid (lsK X Y 5 = lsK X Y 4 ++ l) := by show _ = _; rw [hl, hg.out]; rfl
            have HLL : Hid (l.length ≤ 8) := by show _ ≤ _; have := lsS_len Z Y 4; rw [hl]; exact this
            clear hc hfx hP hl
            go_wp2_with (fail)
            refine (hL _).mono ?_
            rintro e w5 ⟨v5, rfl, hr5, hb5⟩
            obtain ⟨ad5, cap5, rfl, hcap5, _⟩ := hr5.form
            have HR5 : Hid (RowX w5 (wr.alloc (.cells #[.func (.func 78) #[] #[], .func (.func 80) #[] #[], .func (.func 82) #[] #[], .func (.func 83) #[] #[], .func (.func 85) #[] #[]] 55)).heap.size (.slice ad5 l.length cap5) l) := hr5
            have HP5 : Hid (RowX w5 (B + 1) (.slice ad ln cap) (lsK X Y 4)) := (HRow.out.alloc _).on hb5
            have HF5 : Hid (w5.heap[wr.heap.size]? = some (.cells #[.func (.func 78) #[] #[], .func (.func 80) #[] #[], .func (.func 82) #[] #[], .func (.func 83) #[] #[], .func (.func 85) #[] #[]] 55)) := blk_on (blk_new wr _) hb5
            have HY5 : Hid (w5.heap[w.heap.size + 1]? = some (.cells #[.int .u32 (Y.a.1 : Int), .int .u32 (Y.a.2 : Int), .int .u32 (Y.b.1 : Int), .int .u32 (Y.b.2 : Int), .int .u16 (Y.c.1 : Int), .int .u16 (Y.c.2 : Int), .int .u16 (Y.d.1 : Int), .int .u16 (Y.d.2 : Int), .int .u8 (Y.m.1 : Int), .int .u8 (Y.m.2 : Int)] 33)) := blk_on (blk_alloc hY.out _) hb5
            have HZ5 : Hid (w5.heap[B]? = some (.cells #[.int .u32 (Z.a.1 : Int), .int .u32 (Z.a.2 : Int), .int .u32 (Z.b.1 : Int), .int .u32 (Z.b.2 : Int), .int .u16 (Z.c.1 : Int), .int .u16 (Z.c.2 : Int), .int .u16 (Z.d.1 : Int), .int .u16 (Z.d.2 : Int), .int .u8 (Z.m.1 : Int), .int .u8 (Z.m.2 : Int)] 33)) := blk_on (blk_alloc hZ.out _) hb5
            have hbw5 : Hid (Below w.heap.size w w5) := (hbr.out.alloc (by omega) _).trans (hb5.mono (by simp; omega))
            have hz5 := hb5.size
            simp at hz5
            obtain ⟨m5, hm5⟩ : ∃ m5, m5 = l.length := ⟨_, rfl⟩
            rw [← hm5] at HR5 HLL hcap5 ⊢
            have HM5 : Hid (m5 = l.length) := hm5
            clear hb5 hr5 hL hm5 c0 c1 c2 c3 c4 c5 c6 c7 c8 c9 d0 d1 d2 d3 d4 d5 d6 d7 d8 d9 hY hZ
            go_wp2_with (at_builtin; refine wpList_appendX rfl (.tmp 34) (.tmp 39) rfl (B + 1) _ (lsK X Y 4) rfl HP5.out _ _ l rfl HR5.out (by omega) (by rw [← HLN.out, ← HM5.out]; have := HLE.out; have := HLL.out; omega) ?_; intro v6 w6 hrow6 hgr6; have HR6 : Hid (RowX w6 (B + 1) v6 (lsK X Y 5)) := (by show RowX _ _ _ _; rw [HL.out]; exact hrow6); have HF6 := blk_grown hgr6 HF5.out (fun e => by have := (HOwn.out _ e.symm).2; omega); have HY6 := blk_grown hgr6 HY5.out (fun e => by have := (HOwn.out _ e.symm).1; omega); have HZ6 := blk_grown hgr6 HZ5.out (fun e => by have := (HOwn.out _ e.symm).1; omega); have hbw6 : Hid (Below w.heap.size w w6) := hbw5.out.grown hgr6 hbw5.out.size (fun j hj => by have := (HOwn.out j hj).1; omega); obtain ⟨f0, f1, f2, f3, f4⟩ := blk5 HF6; obtain ⟨c0, c1, c2, c3, c4, c5, c6, c7, c8, c9⟩ := blk10 HY6; obtain ⟨d0, d1, d2, d3, d4, d5, d6, d7, d8, d9⟩ := blk10 HZ6; clear hrow6 hgr6 HF6)
            refine (hM _).mono ?_
            rintro e w7 ⟨rfl, hb7⟩
            have HR7 : Hid (RowX w7 (B + 1) v6 (lsK X Y 5)) := HR6.out.on hb7
            have HY7 : Hid (w7.heap[w.heap.size + 1]? = some (.cells #[.int .u32 (Y.a.1 : Int), .int .u32 (Y.a.2 : Int), .int .u32 (Y.b.1 : Int), .int .u32 (Y.b.2 : Int), .int .u16 (Y.c.1 : Int), .int .u16 (Y.c.2 : Int), .int .u16 (Y.d.1 : Int), .int .u16 (Y.d.2 : Int), .int .u8 (Y.m.1 : Int), .int .u8 (Y.m.2 : Int)] 33)) := blk_on HY6 hb7
            have HZ7 := blk_on HZ6 hb7
            have hbw7 : Hid (Below w.heap.size w w7) := hbw6.out.trans (hb7.mono hbw6.out.size)
            clear hb7 hM c0 c1 c2 c3 c4 c5 c6 c7 c8 c9 d0 d1 d2 d3 d4 d5 d6 d7 d8 d9 HR6 HY6 HZ6 f0 f1 f2 f3 f4
            go_wp2_with (refine wpList_store_blk rfl 33 (.tmp 8) (.tmp 47) rfl B 0 #[.int .u32 (Z.a.1 : Int), .int .u32 (Z.a.2 : Int), .int .u32 (Z.b.1 : Int), .int .u32 (Z.b.2 : Int), .int .u16 (Z.c.1 : Int), .int .u16 (Z.c.2 : Int), .int .u16 (Z.d.1 : Int), .int .u16 (Z.d.2 : Int), .int .u8 (P.1 : Int), .int .u8 (P.2 : Int)] #[.int .u32 (Z.a.1 : Int), .int .u32 (Z.a.2 : Int), .int .u32 (Z.b.1 : Int), .int .u32 (Z.b.2 : Int), .int .u16 (Z.c.1 : Int), .int .u16 (Z.c.2 : Int), .int .u16 (Z.d.1 : Int), .int .u16 (Z.d.2 : Int), .int .u8 (P.1 : Int), .int .u8 (P.2 : Int)] rfl rfl 33 _ HZ7 (Nat.le_of_ble_eq_true rfl) rfl (by kernel_rfl) rfl ?_; intro w8 h8 ho8)
            go_roundw
            case rel => exact ⟨5, ⟨Z.a, Z.b, Z.c, Z.d, P⟩, by omega, rfl, HZ.out, HR7.out.k1 (K1.of_only ho8) (by omega), by show _ = _; rw [ho8.block _ (by omega)]; exact HY7.out, h8, hbw7.out.trans (ho8.below (by omega))⟩
            case measure => simp [intOf]
          · have HF : Hid (lsK X Y 5 = lessX X Y) := by show _ = _; rw [lsK_five, HE.out]
            go_wp2
            go_ret
            exact ⟨_, rfl, by rw [← HF.out]; exact HRow.out.base (by omega), hbr.out⟩
end Go.Proofs.Ythggiblkehcfaaa
