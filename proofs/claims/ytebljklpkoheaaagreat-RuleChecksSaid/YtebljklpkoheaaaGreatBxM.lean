/-
  Meet, Within of package box. Written by tools/mkBxM.py.
-/
import Derived.Test.YtebljklpkoheaaaGreatBxQ
import Derived.Test.YtebljklpkoheaaaGreatBxI
import Derived.Test.YtebljklpkoheaaaGreatBxEq
namespace Go.Proofs.YtebljklpkoheaaaGreat
open Go.RowKit
set_option linter.unusedVariables false
set_option linter.unusedSimpArgs false

/-- One field more is cut to what is shared. -/
def mtS (Z Y : Bx) : Nat → Bx
  | 0 => ⟨meetI Z.a Y.a, Z.b, Z.c, Z.d, Z.m⟩
  | 1 => ⟨Z.a, meetI Z.b Y.b, Z.c, Z.d, Z.m⟩
  | 2 => ⟨Z.a, Z.b, meetI Z.c Y.c, Z.d, Z.m⟩
  | 3 => ⟨Z.a, Z.b, Z.c, meetI Z.d Y.d, Z.m⟩
  | _ => ⟨Z.a, Z.b, Z.c, Z.d, (Z.m.1 ||| Y.m.1, Z.m.2 ||| Y.m.2)⟩
def mtK (X Y : Bx) : Nat → Bx
  | 0 => X
  | k + 1 => mtS (mtK X Y k) Y k
theorem mtK_five (X Y : Bx) : mtK X Y 5 = meetB X Y := rfl
theorem mtS_bd {Z Y : Bx} (bx : BdX Z) (bY : BdX Y) : ∀ k, BdX (mtS Z Y k) := by
  obtain ⟨x1, x2, x3, x4, x5, x6, x7, x8, x9, x0⟩ := bx
  obtain ⟨y1, y2, y3, y4, y5, y6, y7, y8, y9, y0⟩ := bY
  have ma := meetI_lt (s := Z.a) (t := Y.a) ⟨x1, x2⟩ y1
  have mb := meetI_lt (s := Z.b) (t := Y.b) ⟨x3, x4⟩ y3
  have mc := meetI_lt (s := Z.c) (t := Y.c) ⟨x5, x6⟩ y5
  have md := meetI_lt (s := Z.d) (t := Y.d) ⟨x7, x8⟩ y7
  intro k
  match k with
  | 0 => exact ⟨ma.1, ma.2, x3, x4, x5, x6, x7, x8, x9, x0⟩
  | 1 => exact ⟨x1, x2, mb.1, mb.2, x5, x6, x7, x8, x9, x0⟩
  | 2 => exact ⟨x1, x2, x3, x4, mc.1, mc.2, x7, x8, x9, x0⟩
  | 3 => exact ⟨x1, x2, x3, x4, x5, x6, md.1, md.2, x9, x0⟩
  | _ + 4 => exact ⟨x1, x2, x3, x4, x5, x6, x7, x8, or_lt x9 y9, or_lt x0 y0⟩
theorem mtK_bd {X Y : Bx} (bx : BdX X) (bY : BdX Y) : ∀ k, BdX (mtK X Y k)
  | 0 => bx
  | k + 1 => mtS_bd (mtK_bd bx bY k) bY k
/-- The first k fields have something in common. -/
def mkK (X Y : Bx) (k : Nat) : Prop := (0 < k → okI (meetI X.a Y.a) = true) ∧ (1 < k → okI (meetI X.b Y.b) = true) ∧ (2 < k → okI (meetI X.c Y.c) = true) ∧ (3 < k → okI (meetI X.d Y.d) = true) ∧ (4 < k → (okM X.m.1 X.m.2 && okM Y.m.1 Y.m.2 && !apM X.m.1 X.m.2 Y.m.1 Y.m.2) = true)
theorem okI_meet {s t : Nat × Nat} (h : okI (meetI s t) = true) : okI s = true ∧ okI t = true := by
  have := of_decide_eq_true h
  unfold meetI at this
  simp only at this
  exact ⟨decide_eq_true (by omega), decide_eq_true (by omega)⟩
theorem both_five (X Y : Bx) : bothX X Y = true ↔ mkK X Y 5 := by
  rw [bothX_iff, okX_iff, okX_iff]
  unfold mkK
  constructor
  · rintro ⟨⟨a1, a2, a3, a4, a5⟩, ⟨b1, b2, b3, b4, b5⟩, h3, h4, h5, h6, h7⟩
    exact ⟨fun _ => h4, fun _ => h5, fun _ => h6, fun _ => h7, fun _ => by rw [a5, b5, h3]; rfl⟩
  · rintro ⟨h1, h2, h3, h4, h5⟩
    have h5 := h5 (by decide)
    simp only [Bool.and_eq_true, Bool.not_eq_true'] at h5
    exact ⟨⟨(okI_meet (h1 (by decide))).1, (okI_meet (h2 (by decide))).1, (okI_meet (h3 (by decide))).1, (okI_meet (h4 (by decide))).1, h5.1.1⟩, ⟨(okI_meet (h1 (by decide))).2, (okI_meet (h2 (by decide))).2, (okI_meet (h3 (by decide))).2, (okI_meet (h4 (by decide))).2, h5.1.2⟩, h5.2, h1 (by decide), h2 (by decide), h3 (by decide), h4 (by decide)⟩
set_option maxRecDepth 20000 in
set_option maxHeartbeats 4000000 in
theorem meetXC : MeetC := by
  intro X Y w bX bY
  have HBX : Hid (BdX X) := bX
  have HBY : Hid (BdX Y) := bY
  clear bX bY
  obtain ⟨B, hB⟩ : ∃ B, B = w.heap.size := ⟨_, rfl⟩
  go_enter Tryz.func47, Tryz.ntmps47
  go_wp2_with (fail)
  refine (fieldsX _).mono ?_
  rintro e w1 ⟨rfl, hb1⟩
  have hY : Hid (w1.heap[w.heap.size + 1]? = some (.cells #[.int .u32 (Y.a.1 : Int), .int .u32 (Y.a.2 : Int), .int .u32 (Y.b.1 : Int), .int .u32 (Y.b.2 : Int), .int .u16 (Y.c.1 : Int), .int .u16 (Y.c.2 : Int), .int .u16 (Y.d.1 : Int), .int .u16 (Y.d.2 : Int), .int .u8 (Y.m.1 : Int), .int .u8 (Y.m.2 : Int)] 41)) := blk_on (blk_alloc (blk_alloc (by simpa using blk_new (w.alloc (.cells #[.int .u32 (X.a.1 : Int), .int .u32 (X.a.2 : Int), .int .u32 (X.b.1 : Int), .int .u32 (X.b.2 : Int), .int .u16 (X.c.1 : Int), .int .u16 (X.c.2 : Int), .int .u16 (X.d.1 : Int), .int .u16 (X.d.2 : Int), .int .u8 (X.m.1 : Int), .int .u8 (X.m.2 : Int)] 41)) (.cells #[.int .u32 (Y.a.1 : Int), .int .u32 (Y.a.2 : Int), .int .u32 (Y.b.1 : Int), .int .u32 (Y.b.2 : Int), .int .u16 (Y.c.1 : Int), .int .u16 (Y.c.2 : Int), .int .u16 (Y.d.1 : Int), .int .u16 (Y.d.2 : Int), .int .u8 (Y.m.1 : Int), .int .u8 (Y.m.2 : Int)] 41)) _) _) hb1
  have hR : Hid (w1.heap[w.heap.size + 1 + 1]? = some (.cells #[.int .u32 0, .int .u32 0, .int .u32 0, .int .u32 0, .int .u16 0, .int .u16 0, .int .u16 0, .int .u16 0, .int .u8 0, .int .u8 0] 41)) := blk_on (blk_alloc (by simpa using blk_new ((w.alloc (.cells #[.int .u32 (X.a.1 : Int), .int .u32 (X.a.2 : Int), .int .u32 (X.b.1 : Int), .int .u32 (X.b.2 : Int), .int .u16 (X.c.1 : Int), .int .u16 (X.c.2 : Int), .int .u16 (X.d.1 : Int), .int .u16 (X.d.2 : Int), .int .u8 (X.m.1 : Int), .int .u8 (X.m.2 : Int)] 41)).alloc (.cells #[.int .u32 (Y.a.1 : Int), .int .u32 (Y.a.2 : Int), .int .u32 (Y.b.1 : Int), .int .u32 (Y.b.2 : Int), .int .u16 (Y.c.1 : Int), .int .u16 (Y.c.2 : Int), .int .u16 (Y.d.1 : Int), .int .u16 (Y.d.2 : Int), .int .u8 (Y.m.1 : Int), .int .u8 (Y.m.2 : Int)] 41)) (.cells #[.int .u32 0, .int .u32 0, .int .u32 0, .int .u32 0, .int .u16 0, .int .u16 0, .int .u16 0, .int .u16 0, .int .u8 0, .int .u8 0] 41)) _) hb1
  have hZ : Hid (w1.heap[w.heap.size + 1 + 1 + 1]? = some (.cells #[.int .u32 (X.a.1 : Int), .int .u32 (X.a.2 : Int), .int .u32 (X.b.1 : Int), .int .u32 (X.b.2 : Int), .int .u16 (X.c.1 : Int), .int .u16 (X.c.2 : Int), .int .u16 (X.d.1 : Int), .int .u16 (X.d.2 : Int), .int .u8 (X.m.1 : Int), .int .u8 (X.m.2 : Int)] 41)) := blk_on (by simpa using blk_new (((w.alloc (.cells #[.int .u32 (X.a.1 : Int), .int .u32 (X.a.2 : Int), .int .u32 (X.b.1 : Int), .int .u32 (X.b.2 : Int), .int .u16 (X.c.1 : Int), .int .u16 (X.c.2 : Int), .int .u16 (X.d.1 : Int), .int .u16 (X.d.2 : Int), .int .u8 (X.m.1 : Int), .int .u8 (X.m.2 : Int)] 41)).alloc (.cells #[.int .u32 (Y.a.1 : Int), .int .u32 (Y.a.2 : Int), .int .u32 (Y.b.1 : Int), .int .u32 (Y.b.2 : Int), .int .u16 (Y.c.1 : Int), .int .u16 (Y.c.2 : Int), .int .u16 (Y.d.1 : Int), .int .u16 (Y.d.2 : Int), .int .u8 (Y.m.1 : Int), .int .u8 (Y.m.2 : Int)] 41)).alloc (.cells #[.int .u32 0, .int .u32 0, .int .u32 0, .int .u32 0, .int .u16 0, .int .u16 0, .int .u16 0, .int .u16 0, .int .u8 0, .int .u8 0] 41)) (.cells #[.int .u32 (X.a.1 : Int), .int .u32 (X.a.2 : Int), .int .u32 (X.b.1 : Int), .int .u32 (X.b.2 : Int), .int .u16 (X.c.1 : Int), .int .u16 (X.c.2 : Int), .int .u16 (X.d.1 : Int), .int .u16 (X.d.2 : Int), .int .u8 (X.m.1 : Int), .int .u8 (X.m.2 : Int)] 41)) hb1
  have hbl : Hid (Below w.heap.size w w1) := by show Below _ _ _; (repeat (first | assumption | exact Below.refl _ _ | refine Below.drew ?_ | refine bel_drewN ?_ _ | refine Below.setCell ?_ (by first | omega | (simp; done) | (simp; omega)) _ | refine Below.alloc ?_ (by first | omega | (simp; done) | (simp; omega)) _ | refine bel_of ?_ (by assumption)))
  clear hb1 hB
  go_wp2_with (fail)
  go_loopw [13] (fun iv wr => ∃ (k : Nat) (Z : Bx), k ≤ 5 ∧ iv = .int .i64 (k : Int) ∧ Hid (Z = mtK X Y k ∧ mkK X Y k) ∧ Hid (wr.heap[w.heap.size + 1]? = some (.cells #[.int .u32 (Y.a.1 : Int), .int .u32 (Y.a.2 : Int), .int .u32 (Y.b.1 : Int), .int .u32 (Y.b.2 : Int), .int .u16 (Y.c.1 : Int), .int .u16 (Y.c.2 : Int), .int .u16 (Y.d.1 : Int), .int .u16 (Y.d.2 : Int), .int .u8 (Y.m.1 : Int), .int .u8 (Y.m.2 : Int)] 41)) ∧ Hid (wr.heap[w.heap.size + 1 + 1]? = some (.cells #[.int .u32 0, .int .u32 0, .int .u32 0, .int .u32 0, .int .u16 0, .int .u16 0, .int .u16 0, .int .u16 0, .int .u8 0, .int .u8 0] 41)) ∧ Hid (wr.heap[w.heap.size + 1 + 1 + 1]? = some (.cells #[.int .u32 (Z.a.1 : Int), .int .u32 (Z.a.2 : Int), .int .u32 (Z.b.1 : Int), .int .u32 (Z.b.2 : Int), .int .u16 (Z.c.1 : Int), .int .u16 (Z.c.2 : Int), .int .u16 (Z.d.1 : Int), .int .u16 (Z.d.2 : Int), .int .u8 (Z.m.1 : Int), .int .u8 (Z.m.2 : Int)] 41)) ∧ Hid (Below w.heap.size w wr)) (fun iv _ => 5 - (intOf iv).toNat)
  case atStart => exact ⟨0, X, Nat.zero_le _, rfl, ⟨rfl, fun h => by omega, fun h => by omega, fun h => by omega, fun h => by omega, fun h => by omega⟩, hY.out, hR.out, hZ.out, hbl.out⟩
  case round =>
    clear hY hR hZ hbl
    obtain ⟨k, Z, hk, rfl, hg, hY, hR, hZ, hbr⟩ := hrel
    obtain ⟨c0, c1, c2, c3, c4, c5, c6, c7, c8, c9⟩ := blk10 hY.out
    obtain ⟨d0, d1, d2, d3, d4, d5, d6, d7, d8, d9⟩ := blk10 hZ.out
    have hlt := blk_lt hZ.out
    have hlt1 : w.heap.size + 1 < wr.heap.size := by omega
    have n0 : ¬ w.heap.size + 1 = wr.heap.size := by omega
    have n1 : ¬ w.heap.size + 1 + 1 + 1 = wr.heap.size := by omega
    have hbZ : Hid (BdX Z) := by show BdX Z; rw [hg.out.1]; exact mtK_bd HBX.out HBY.out k
    obtain rfl | rfl | rfl | rfl | rfl | rfl : k = 0 ∨ k = 1 ∨ k = 2 ∨ k = 3 ∨ k = 4 ∨ k = 5 := by omega
    · have hix := idx_src
      have hfx : Z.a = X.a := by rw [hg.out.1]; rfl
      cases hc : okI (meetI Z.a Y.a)
      · have hM := fun W => src4_no Z Y W hbZ.out HBY.out hc
        have HE : Hid (bothX X Y = false) := by
          show _ = _
          rw [← Bool.not_eq_true, both_five]
          intro hm
          have := hm.1 (by decide)
          rw [← hfx, hc] at this
          cases this
        clear hc hfx
        go_wp2_with (fail)
        refine (hM _).mono ?_
        rintro e w2 ⟨rfl, hb2⟩
        have hR2 := blk_on (blk_alloc hR.out _) hb2
        have hbw : Hid (Below w.heap.size w w2) := (hbr.out.alloc (by omega) _).trans (hb2.mono (by simp; omega))
        clear hb2 hM c0 c1 c2 c3 c4 c5 c6 c7 c8 c9 d0 d1 d2 d3 d4 d5 d6 d7 d8 d9 hix hY hR hZ
        go_wp2_with (refine wpList_store_blk rfl 41 (.tmp 4) (.tmp 26) rfl (w.heap.size + 1 + 1) 0 #[.int .u32 0, .int .u32 0, .int .u32 0, .int .u32 0, .int .u16 0, .int .u16 0, .int .u16 0, .int .u16 0, .int .u8 0, .int .u8 0] #[.int .u32 0, .int .u32 0, .int .u32 0, .int .u32 0, .int .u16 0, .int .u16 0, .int .u16 0, .int .u16 0, .int .u8 0, .int .u8 0] rfl rfl 41 _ (blk_alloc hR2 _) (Nat.le_of_ble_eq_true rfl) rfl (by kernel_rfl) rfl ?_; intro w3 h3 ho3)
        refine bodyPost_ret (results_blk2 Tryz.results47 rfl h3 Tryz.underlying41 rfl (by kernel_rfl)) rfl ⟨?_, (hbw.out.alloc (by have := hbw.out.size; omega) _).trans (ho3.below (by omega))⟩
        rw [HE.out, show meetX X Y = zeroX by unfold meetX; rw [HE.out]; rfl]
        rfl
      · have hM := fun W => src4_yes Z Y W hbZ.out HBY.out hc
        have HC : Hid (okI (meetI X.a Y.a) = true) := by show _ = _; rw [← hfx]; exact hc
        obtain ⟨P, hP⟩ : ∃ P : Nat × Nat, P = meetI Z.a Y.a := ⟨_, rfl⟩
        rw [← hP] at hM
        have HZ : Hid ((⟨P, Z.b, Z.c, Z.d, Z.m⟩ : Bx) = mtK X Y 1) := by show _ = _; rw [hP, hg.out.1]; rfl
        clear hc hfx hP
        go_wp2_with (fail)
        refine (hM _).mono ?_
        rintro e w2 ⟨rfl, hb2⟩
        have hY2 : Hid (w2.heap[w.heap.size + 1]? = some (.cells #[.int .u32 (Y.a.1 : Int), .int .u32 (Y.a.2 : Int), .int .u32 (Y.b.1 : Int), .int .u32 (Y.b.2 : Int), .int .u16 (Y.c.1 : Int), .int .u16 (Y.c.2 : Int), .int .u16 (Y.d.1 : Int), .int .u16 (Y.d.2 : Int), .int .u8 (Y.m.1 : Int), .int .u8 (Y.m.2 : Int)] 41)) := blk_on (blk_alloc hY.out _) hb2
        have hR2 : Hid (w2.heap[w.heap.size + 1 + 1]? = some (.cells #[.int .u32 0, .int .u32 0, .int .u32 0, .int .u32 0, .int .u16 0, .int .u16 0, .int .u16 0, .int .u16 0, .int .u8 0, .int .u8 0] 41)) := blk_on (blk_alloc hR.out _) hb2
        have hZ2 := blk_on (blk_alloc hZ.out _) hb2
        have hbw : Hid (Below w.heap.size w w2) := (hbr.out.alloc (by omega) _).trans (hb2.mono (by simp; omega))
        clear hb2 hM c0 c1 c2 c3 c4 c5 c6 c7 c8 c9 d0 d1 d2 d3 d4 d5 d6 d7 d8 d9 hix hY hR hZ
        go_wp2_with (refine wpList_store_blk rfl 41 (.tmp 6) (.tmp 27) rfl (w.heap.size + 1 + 1 + 1) 0 #[.int .u32 (P.1 : Int), .int .u32 (P.2 : Int), .int .u32 (Z.b.1 : Int), .int .u32 (Z.b.2 : Int), .int .u16 (Z.c.1 : Int), .int .u16 (Z.c.2 : Int), .int .u16 (Z.d.1 : Int), .int .u16 (Z.d.2 : Int), .int .u8 (Z.m.1 : Int), .int .u8 (Z.m.2 : Int)] #[.int .u32 (P.1 : Int), .int .u32 (P.2 : Int), .int .u32 (Z.b.1 : Int), .int .u32 (Z.b.2 : Int), .int .u16 (Z.c.1 : Int), .int .u16 (Z.c.2 : Int), .int .u16 (Z.d.1 : Int), .int .u16 (Z.d.2 : Int), .int .u8 (Z.m.1 : Int), .int .u8 (Z.m.2 : Int)] rfl rfl 41 _ (blk_alloc hZ2 _) (Nat.le_of_ble_eq_true rfl) rfl (by kernel_rfl) rfl ?_; intro w3 h3 ho3)
        go_roundw
        case rel => exact ⟨1, ⟨P, Z.b, Z.c, Z.d, Z.m⟩, by omega, rfl, ⟨HZ.out, fun _ => HC.out, fun h => by omega, fun h => by omega, fun h => by omega, fun h => by omega⟩, by show _ = _; rw [ho3.block _ (by omega)]; exact blk_alloc hY2.out _, by show _ = _; rw [ho3.block _ (by omega)]; exact blk_alloc hR2.out _, h3, (hbw.out.alloc (by have := hbw.out.size; omega) _).trans (ho3.below (by omega))⟩
        case measure => simp [intOf]
    · have hix := idx_dst
      have hfx : Z.b = X.b := by rw [hg.out.1]; rfl
      cases hc : okI (meetI Z.b Y.b)
      · have hM := fun W => dst4_no Z Y W hbZ.out HBY.out hc
        have HE : Hid (bothX X Y = false) := by
          show _ = _
          rw [← Bool.not_eq_true, both_five]
          intro hm
          have := hm.2.1 (by decide)
          rw [← hfx, hc] at this
          cases this
        clear hc hfx
        go_wp2_with (fail)
        refine (hM _).mono ?_
        rintro e w2 ⟨rfl, hb2⟩
        have hR2 := blk_on (blk_alloc hR.out _) hb2
        have hbw : Hid (Below w.heap.size w w2) := (hbr.out.alloc (by omega) _).trans (hb2.mono (by simp; omega))
        clear hb2 hM c0 c1 c2 c3 c4 c5 c6 c7 c8 c9 d0 d1 d2 d3 d4 d5 d6 d7 d8 d9 hix hY hR hZ
        go_wp2_with (refine wpList_store_blk rfl 41 (.tmp 4) (.tmp 26) rfl (w.heap.size + 1 + 1) 0 #[.int .u32 0, .int .u32 0, .int .u32 0, .int .u32 0, .int .u16 0, .int .u16 0, .int .u16 0, .int .u16 0, .int .u8 0, .int .u8 0] #[.int .u32 0, .int .u32 0, .int .u32 0, .int .u32 0, .int .u16 0, .int .u16 0, .int .u16 0, .int .u16 0, .int .u8 0, .int .u8 0] rfl rfl 41 _ (blk_alloc hR2 _) (Nat.le_of_ble_eq_true rfl) rfl (by kernel_rfl) rfl ?_; intro w3 h3 ho3)
        refine bodyPost_ret (results_blk2 Tryz.results47 rfl h3 Tryz.underlying41 rfl (by kernel_rfl)) rfl ⟨?_, (hbw.out.alloc (by have := hbw.out.size; omega) _).trans (ho3.below (by omega))⟩
        rw [HE.out, show meetX X Y = zeroX by unfold meetX; rw [HE.out]; rfl]
        rfl
      · have hM := fun W => dst4_yes Z Y W hbZ.out HBY.out hc
        have HC : Hid (okI (meetI X.b Y.b) = true) := by show _ = _; rw [← hfx]; exact hc
        obtain ⟨P, hP⟩ : ∃ P : Nat × Nat, P = meetI Z.b Y.b := ⟨_, rfl⟩
        rw [← hP] at hM
        have HZ : Hid ((⟨Z.a, P, Z.c, Z.d, Z.m⟩ : Bx) = mtK X Y 2) := by show _ = _; rw [hP, hg.out.1]; rfl
        clear hc hfx hP
        go_wp2_with (fail)
        refine (hM _).mono ?_
        rintro e w2 ⟨rfl, hb2⟩
        have hY2 : Hid (w2.heap[w.heap.size + 1]? = some (.cells #[.int .u32 (Y.a.1 : Int), .int .u32 (Y.a.2 : Int), .int .u32 (Y.b.1 : Int), .int .u32 (Y.b.2 : Int), .int .u16 (Y.c.1 : Int), .int .u16 (Y.c.2 : Int), .int .u16 (Y.d.1 : Int), .int .u16 (Y.d.2 : Int), .int .u8 (Y.m.1 : Int), .int .u8 (Y.m.2 : Int)] 41)) := blk_on (blk_alloc hY.out _) hb2
        have hR2 : Hid (w2.heap[w.heap.size + 1 + 1]? = some (.cells #[.int .u32 0, .int .u32 0, .int .u32 0, .int .u32 0, .int .u16 0, .int .u16 0, .int .u16 0, .int .u16 0, .int .u8 0, .int .u8 0] 41)) := blk_on (blk_alloc hR.out _) hb2
        have hZ2 := blk_on (blk_alloc hZ.out _) hb2
        have hbw : Hid (Below w.heap.size w w2) := (hbr.out.alloc (by omega) _).trans (hb2.mono (by simp; omega))
        clear hb2 hM c0 c1 c2 c3 c4 c5 c6 c7 c8 c9 d0 d1 d2 d3 d4 d5 d6 d7 d8 d9 hix hY hR hZ
        go_wp2_with (refine wpList_store_blk rfl 41 (.tmp 6) (.tmp 27) rfl (w.heap.size + 1 + 1 + 1) 0 #[.int .u32 (Z.a.1 : Int), .int .u32 (Z.a.2 : Int), .int .u32 (P.1 : Int), .int .u32 (P.2 : Int), .int .u16 (Z.c.1 : Int), .int .u16 (Z.c.2 : Int), .int .u16 (Z.d.1 : Int), .int .u16 (Z.d.2 : Int), .int .u8 (Z.m.1 : Int), .int .u8 (Z.m.2 : Int)] #[.int .u32 (Z.a.1 : Int), .int .u32 (Z.a.2 : Int), .int .u32 (P.1 : Int), .int .u32 (P.2 : Int), .int .u16 (Z.c.1 : Int), .int .u16 (Z.c.2 : Int), .int .u16 (Z.d.1 : Int), .int .u16 (Z.d.2 : Int), .int .u8 (Z.m.1 : Int), .int .u8 (Z.m.2 : Int)] rfl rfl 41 _ (blk_alloc hZ2 _) (Nat.le_of_ble_eq_true rfl) rfl (by kernel_rfl) rfl ?_; intro w3 h3 ho3)
        go_roundw
        case rel => exact ⟨2, ⟨Z.a, P, Z.c, Z.d, Z.m⟩, by omega, rfl, ⟨HZ.out, fun h => hg.out.2.1 (by omega), fun _ => HC.out, fun h => by omega, fun h => by omega, fun h => by omega⟩, by show _ = _; rw [ho3.block _ (by omega)]; exact blk_alloc hY2.out _, by show _ = _; rw [ho3.block _ (by omega)]; exact blk_alloc hR2.out _, h3, (hbw.out.alloc (by have := hbw.out.size; omega) _).trans (ho3.below (by omega))⟩
        case measure => simp [intOf]
    · have hix := idx_sport
      have hfx : Z.c = X.c := by rw [hg.out.1]; rfl
      cases hc : okI (meetI Z.c Y.c)
      · have hM := fun W => sport4_no Z Y W hbZ.out HBY.out hc
        have HE : Hid (bothX X Y = false) := by
          show _ = _
          rw [← Bool.not_eq_true, both_five]
          intro hm
          have := hm.2.2.1 (by decide)
          rw [← hfx, hc] at this
          cases this
        clear hc hfx
        go_wp2_with (fail)
        refine (hM _).mono ?_
        rintro e w2 ⟨rfl, hb2⟩
        have hR2 := blk_on (blk_alloc hR.out _) hb2
        have hbw : Hid (Below w.heap.size w w2) := (hbr.out.alloc (by omega) _).trans (hb2.mono (by simp; omega))
        clear hb2 hM c0 c1 c2 c3 c4 c5 c6 c7 c8 c9 d0 d1 d2 d3 d4 d5 d6 d7 d8 d9 hix hY hR hZ
        go_wp2_with (refine wpList_store_blk rfl 41 (.tmp 4) (.tmp 26) rfl (w.heap.size + 1 + 1) 0 #[.int .u32 0, .int .u32 0, .int .u32 0, .int .u32 0, .int .u16 0, .int .u16 0, .int .u16 0, .int .u16 0, .int .u8 0, .int .u8 0] #[.int .u32 0, .int .u32 0, .int .u32 0, .int .u32 0, .int .u16 0, .int .u16 0, .int .u16 0, .int .u16 0, .int .u8 0, .int .u8 0] rfl rfl 41 _ (blk_alloc hR2 _) (Nat.le_of_ble_eq_true rfl) rfl (by kernel_rfl) rfl ?_; intro w3 h3 ho3)
        refine bodyPost_ret (results_blk2 Tryz.results47 rfl h3 Tryz.underlying41 rfl (by kernel_rfl)) rfl ⟨?_, (hbw.out.alloc (by have := hbw.out.size; omega) _).trans (ho3.below (by omega))⟩
        rw [HE.out, show meetX X Y = zeroX by unfold meetX; rw [HE.out]; rfl]
        rfl
      · have hM := fun W => sport4_yes Z Y W hbZ.out HBY.out hc
        have HC : Hid (okI (meetI X.c Y.c) = true) := by show _ = _; rw [← hfx]; exact hc
        obtain ⟨P, hP⟩ : ∃ P : Nat × Nat, P = meetI Z.c Y.c := ⟨_, rfl⟩
        rw [← hP] at hM
        have HZ : Hid ((⟨Z.a, Z.b, P, Z.d, Z.m⟩ : Bx) = mtK X Y 3) := by show _ = _; rw [hP, hg.out.1]; rfl
        clear hc hfx hP
        go_wp2_with (fail)
        refine (hM _).mono ?_
        rintro e w2 ⟨rfl, hb2⟩
        have hY2 : Hid (w2.heap[w.heap.size + 1]? = some (.cells #[.int .u32 (Y.a.1 : Int), .int .u32 (Y.a.2 : Int), .int .u32 (Y.b.1 : Int), .int .u32 (Y.b.2 : Int), .int .u16 (Y.c.1 : Int), .int .u16 (Y.c.2 : Int), .int .u16 (Y.d.1 : Int), .int .u16 (Y.d.2 : Int), .int .u8 (Y.m.1 : Int), .int .u8 (Y.m.2 : Int)] 41)) := blk_on (blk_alloc hY.out _) hb2
        have hR2 : Hid (w2.heap[w.heap.size + 1 + 1]? = some (.cells #[.int .u32 0, .int .u32 0, .int .u32 0, .int .u32 0, .int .u16 0, .int .u16 0, .int .u16 0, .int .u16 0, .int .u8 0, .int .u8 0] 41)) := blk_on (blk_alloc hR.out _) hb2
        have hZ2 := blk_on (blk_alloc hZ.out _) hb2
        have hbw : Hid (Below w.heap.size w w2) := (hbr.out.alloc (by omega) _).trans (hb2.mono (by simp; omega))
        clear hb2 hM c0 c1 c2 c3 c4 c5 c6 c7 c8 c9 d0 d1 d2 d3 d4 d5 d6 d7 d8 d9 hix hY hR hZ
        go_wp2_with (refine wpList_store_blk rfl 41 (.tmp 6) (.tmp 27) rfl (w.heap.size + 1 + 1 + 1) 0 #[.int .u32 (Z.a.1 : Int), .int .u32 (Z.a.2 : Int), .int .u32 (Z.b.1 : Int), .int .u32 (Z.b.2 : Int), .int .u16 (P.1 : Int), .int .u16 (P.2 : Int), .int .u16 (Z.d.1 : Int), .int .u16 (Z.d.2 : Int), .int .u8 (Z.m.1 : Int), .int .u8 (Z.m.2 : Int)] #[.int .u32 (Z.a.1 : Int), .int .u32 (Z.a.2 : Int), .int .u32 (Z.b.1 : Int), .int .u32 (Z.b.2 : Int), .int .u16 (P.1 : Int), .int .u16 (P.2 : Int), .int .u16 (Z.d.1 : Int), .int .u16 (Z.d.2 : Int), .int .u8 (Z.m.1 : Int), .int .u8 (Z.m.2 : Int)] rfl rfl 41 _ (blk_alloc hZ2 _) (Nat.le_of_ble_eq_true rfl) rfl (by kernel_rfl) rfl ?_; intro w3 h3 ho3)
        go_roundw
        case rel => exact ⟨3, ⟨Z.a, Z.b, P, Z.d, Z.m⟩, by omega, rfl, ⟨HZ.out, fun h => hg.out.2.1 (by omega), fun h => hg.out.2.2.1 (by omega), fun _ => HC.out, fun h => by omega, fun h => by omega⟩, by show _ = _; rw [ho3.block _ (by omega)]; exact blk_alloc hY2.out _, by show _ = _; rw [ho3.block _ (by omega)]; exact blk_alloc hR2.out _, h3, (hbw.out.alloc (by have := hbw.out.size; omega) _).trans (ho3.below (by omega))⟩
        case measure => simp [intOf]
    · have hix := idx_dport
      have hfx : Z.d = X.d := by rw [hg.out.1]; rfl
      cases hc : okI (meetI Z.d Y.d)
      · have hM := fun W => dport4_no Z Y W hbZ.out HBY.out hc
        have HE : Hid (bothX X Y = false) := by
          show _ = _
          rw [← Bool.not_eq_true, both_five]
          intro hm
          have := hm.2.2.2.1 (by decide)
          rw [← hfx, hc] at this
          cases this
        clear hc hfx
        go_wp2_with (fail)
        refine (hM _).mono ?_
        rintro e w2 ⟨rfl, hb2⟩
        have hR2 := blk_on (blk_alloc hR.out _) hb2
        have hbw : Hid (Below w.heap.size w w2) := (hbr.out.alloc (by omega) _).trans (hb2.mono (by simp; omega))
        clear hb2 hM c0 c1 c2 c3 c4 c5 c6 c7 c8 c9 d0 d1 d2 d3 d4 d5 d6 d7 d8 d9 hix hY hR hZ
        go_wp2_with (refine wpList_store_blk rfl 41 (.tmp 4) (.tmp 26) rfl (w.heap.size + 1 + 1) 0 #[.int .u32 0, .int .u32 0, .int .u32 0, .int .u32 0, .int .u16 0, .int .u16 0, .int .u16 0, .int .u16 0, .int .u8 0, .int .u8 0] #[.int .u32 0, .int .u32 0, .int .u32 0, .int .u32 0, .int .u16 0, .int .u16 0, .int .u16 0, .int .u16 0, .int .u8 0, .int .u8 0] rfl rfl 41 _ (blk_alloc hR2 _) (Nat.le_of_ble_eq_true rfl) rfl (by kernel_rfl) rfl ?_; intro w3 h3 ho3)
        refine bodyPost_ret (results_blk2 Tryz.results47 rfl h3 Tryz.underlying41 rfl (by kernel_rfl)) rfl ⟨?_, (hbw.out.alloc (by have := hbw.out.size; omega) _).trans (ho3.below (by omega))⟩
        rw [HE.out, show meetX X Y = zeroX by unfold meetX; rw [HE.out]; rfl]
        rfl
      · have hM := fun W => dport4_yes Z Y W hbZ.out HBY.out hc
        have HC : Hid (okI (meetI X.d Y.d) = true) := by show _ = _; rw [← hfx]; exact hc
        obtain ⟨P, hP⟩ : ∃ P : Nat × Nat, P = meetI Z.d Y.d := ⟨_, rfl⟩
        rw [← hP] at hM
        have HZ : Hid ((⟨Z.a, Z.b, Z.c, P, Z.m⟩ : Bx) = mtK X Y 4) := by show _ = _; rw [hP, hg.out.1]; rfl
        clear hc hfx hP
        go_wp2_with (fail)
        refine (hM _).mono ?_
        rintro e w2 ⟨rfl, hb2⟩
        have hY2 : Hid (w2.heap[w.heap.size + 1]? = some (.cells #[.int .u32 (Y.a.1 : Int), .int .u32 (Y.a.2 : Int), .int .u32 (Y.b.1 : Int), .int .u32 (Y.b.2 : Int), .int .u16 (Y.c.1 : Int), .int .u16 (Y.c.2 : Int), .int .u16 (Y.d.1 : Int), .int .u16 (Y.d.2 : Int), .int .u8 (Y.m.1 : Int), .int .u8 (Y.m.2 : Int)] 41)) := blk_on (blk_alloc hY.out _) hb2
        have hR2 : Hid (w2.heap[w.heap.size + 1 + 1]? = some (.cells #[.int .u32 0, .int .u32 0, .int .u32 0, .int .u32 0, .int .u16 0, .int .u16 0, .int .u16 0, .int .u16 0, .int .u8 0, .int .u8 0] 41)) := blk_on (blk_alloc hR.out _) hb2
        have hZ2 := blk_on (blk_alloc hZ.out _) hb2
        have hbw : Hid (Below w.heap.size w w2) := (hbr.out.alloc (by omega) _).trans (hb2.mono (by simp; omega))
        clear hb2 hM c0 c1 c2 c3 c4 c5 c6 c7 c8 c9 d0 d1 d2 d3 d4 d5 d6 d7 d8 d9 hix hY hR hZ
        go_wp2_with (refine wpList_store_blk rfl 41 (.tmp 6) (.tmp 27) rfl (w.heap.size + 1 + 1 + 1) 0 #[.int .u32 (Z.a.1 : Int), .int .u32 (Z.a.2 : Int), .int .u32 (Z.b.1 : Int), .int .u32 (Z.b.2 : Int), .int .u16 (Z.c.1 : Int), .int .u16 (Z.c.2 : Int), .int .u16 (P.1 : Int), .int .u16 (P.2 : Int), .int .u8 (Z.m.1 : Int), .int .u8 (Z.m.2 : Int)] #[.int .u32 (Z.a.1 : Int), .int .u32 (Z.a.2 : Int), .int .u32 (Z.b.1 : Int), .int .u32 (Z.b.2 : Int), .int .u16 (Z.c.1 : Int), .int .u16 (Z.c.2 : Int), .int .u16 (P.1 : Int), .int .u16 (P.2 : Int), .int .u8 (Z.m.1 : Int), .int .u8 (Z.m.2 : Int)] rfl rfl 41 _ (blk_alloc hZ2 _) (Nat.le_of_ble_eq_true rfl) rfl (by kernel_rfl) rfl ?_; intro w3 h3 ho3)
        go_roundw
        case rel => exact ⟨4, ⟨Z.a, Z.b, Z.c, P, Z.m⟩, by omega, rfl, ⟨HZ.out, fun h => hg.out.2.1 (by omega), fun h => hg.out.2.2.1 (by omega), fun h => hg.out.2.2.2.1 (by omega), fun _ => HC.out, fun h => by omega⟩, by show _ = _; rw [ho3.block _ (by omega)]; exact blk_alloc hY2.out _, by show _ = _; rw [ho3.block _ (by omega)]; exact blk_alloc hR2.out _, h3, (hbw.out.alloc (by have := hbw.out.size; omega) _).trans (ho3.below (by omega))⟩
        case measure => simp [intOf]
    · have hix := idx_proto
      have hfx : Z.m = X.m := by rw [hg.out.1]; rfl
      cases hc : (okM Z.m.1 Z.m.2 && okM Y.m.1 Y.m.2 && !apM Z.m.1 Z.m.2 Y.m.1 Y.m.2)
      · have hM := fun W => proto4_no Z Y W hbZ.out HBY.out hc
        have HE : Hid (bothX X Y = false) := by
          show _ = _
          rw [← Bool.not_eq_true, both_five]
          intro hm
          have := hm.2.2.2.2 (by decide)
          rw [← hfx, hc] at this
          cases this
        clear hc hfx
        go_wp2_with (fail)
        refine (hM _).mono ?_
        rintro e w2 ⟨rfl, hb2⟩
        have hR2 := blk_on (blk_alloc hR.out _) hb2
        have hbw : Hid (Below w.heap.size w w2) := (hbr.out.alloc (by omega) _).trans (hb2.mono (by simp; omega))
        clear hb2 hM c0 c1 c2 c3 c4 c5 c6 c7 c8 c9 d0 d1 d2 d3 d4 d5 d6 d7 d8 d9 hix hY hR hZ
        go_wp2_with (refine wpList_store_blk rfl 41 (.tmp 4) (.tmp 26) rfl (w.heap.size + 1 + 1) 0 #[.int .u32 0, .int .u32 0, .int .u32 0, .int .u32 0, .int .u16 0, .int .u16 0, .int .u16 0, .int .u16 0, .int .u8 0, .int .u8 0] #[.int .u32 0, .int .u32 0, .int .u32 0, .int .u32 0, .int .u16 0, .int .u16 0, .int .u16 0, .int .u16 0, .int .u8 0, .int .u8 0] rfl rfl 41 _ (blk_alloc hR2 _) (Nat.le_of_ble_eq_true rfl) rfl (by kernel_rfl) rfl ?_; intro w3 h3 ho3)
        refine bodyPost_ret (results_blk2 Tryz.results47 rfl h3 Tryz.underlying41 rfl (by kernel_rfl)) rfl ⟨?_, (hbw.out.alloc (by have := hbw.out.size; omega) _).trans (ho3.below (by omega))⟩
        rw [HE.out, show meetX X Y = zeroX by unfold meetX; rw [HE.out]; rfl]
        rfl
      · have hM := fun W => proto4_yes Z Y W hbZ.out HBY.out hc
        have HC : Hid ((okM X.m.1 X.m.2 && okM Y.m.1 Y.m.2 && !apM X.m.1 X.m.2 Y.m.1 Y.m.2) = true) := by show _ = _; rw [← hfx]; exact hc
        obtain ⟨P, hP⟩ : ∃ P : Nat × Nat, P = (Z.m.1 ||| Y.m.1, Z.m.2 ||| Y.m.2) := ⟨_, rfl⟩
        rw [← hP] at hM
        have HZ : Hid ((⟨Z.a, Z.b, Z.c, Z.d, P⟩ : Bx) = mtK X Y 5) := by show _ = _; rw [hP, hg.out.1]; rfl
        clear hc hfx hP
        go_wp2_with (fail)
        refine (hM _).mono ?_
        rintro e w2 ⟨rfl, hb2⟩
        have hY2 : Hid (w2.heap[w.heap.size + 1]? = some (.cells #[.int .u32 (Y.a.1 : Int), .int .u32 (Y.a.2 : Int), .int .u32 (Y.b.1 : Int), .int .u32 (Y.b.2 : Int), .int .u16 (Y.c.1 : Int), .int .u16 (Y.c.2 : Int), .int .u16 (Y.d.1 : Int), .int .u16 (Y.d.2 : Int), .int .u8 (Y.m.1 : Int), .int .u8 (Y.m.2 : Int)] 41)) := blk_on (blk_alloc hY.out _) hb2
        have hR2 : Hid (w2.heap[w.heap.size + 1 + 1]? = some (.cells #[.int .u32 0, .int .u32 0, .int .u32 0, .int .u32 0, .int .u16 0, .int .u16 0, .int .u16 0, .int .u16 0, .int .u8 0, .int .u8 0] 41)) := blk_on (blk_alloc hR.out _) hb2
        have hZ2 := blk_on (blk_alloc hZ.out _) hb2
        have hbw : Hid (Below w.heap.size w w2) := (hbr.out.alloc (by omega) _).trans (hb2.mono (by simp; omega))
        clear hb2 hM c0 c1 c2 c3 c4 c5 c6 c7 c8 c9 d0 d1 d2 d3 d4 d5 d6 d7 d8 d9 hix hY hR hZ
        go_wp2_with (refine wpList_store_blk rfl 41 (.tmp 6) (.tmp 27) rfl (w.heap.size + 1 + 1 + 1) 0 #[.int .u32 (Z.a.1 : Int), .int .u32 (Z.a.2 : Int), .int .u32 (Z.b.1 : Int), .int .u32 (Z.b.2 : Int), .int .u16 (Z.c.1 : Int), .int .u16 (Z.c.2 : Int), .int .u16 (Z.d.1 : Int), .int .u16 (Z.d.2 : Int), .int .u8 (P.1 : Int), .int .u8 (P.2 : Int)] #[.int .u32 (Z.a.1 : Int), .int .u32 (Z.a.2 : Int), .int .u32 (Z.b.1 : Int), .int .u32 (Z.b.2 : Int), .int .u16 (Z.c.1 : Int), .int .u16 (Z.c.2 : Int), .int .u16 (Z.d.1 : Int), .int .u16 (Z.d.2 : Int), .int .u8 (P.1 : Int), .int .u8 (P.2 : Int)] rfl rfl 41 _ (blk_alloc hZ2 _) (Nat.le_of_ble_eq_true rfl) rfl (by kernel_rfl) rfl ?_; intro w3 h3 ho3)
        go_roundw
        case rel => exact ⟨5, ⟨Z.a, Z.b, Z.c, Z.d, P⟩, by omega, rfl, ⟨HZ.out, fun h => hg.out.2.1 (by omega), fun h => hg.out.2.2.1 (by omega), fun h => hg.out.2.2.2.1 (by omega), fun h => hg.out.2.2.2.2.1 (by omega), fun _ => HC.out⟩, by show _ = _; rw [ho3.block _ (by omega)]; exact blk_alloc hY2.out _, by show _ = _; rw [ho3.block _ (by omega)]; exact blk_alloc hR2.out _, h3, (hbw.out.alloc (by have := hbw.out.size; omega) _).trans (ho3.below (by omega))⟩
        case measure => simp [intOf]
    · have HE : Hid (bothX X Y = true) := (both_five X Y).2 hg.out.2
      have HZ : Hid (Z = meetB X Y) := hg.out.1
      go_wp2_with (refine wpList_store_blk rfl 41 (.tmp 4) (.tmp 29) rfl (w.heap.size + 1 + 1) 0 #[.int .u32 (Z.a.1 : Int), .int .u32 (Z.a.2 : Int), .int .u32 (Z.b.1 : Int), .int .u32 (Z.b.2 : Int), .int .u16 (Z.c.1 : Int), .int .u16 (Z.c.2 : Int), .int .u16 (Z.d.1 : Int), .int .u16 (Z.d.2 : Int), .int .u8 (Z.m.1 : Int), .int .u8 (Z.m.2 : Int)] #[.int .u32 (Z.a.1 : Int), .int .u32 (Z.a.2 : Int), .int .u32 (Z.b.1 : Int), .int .u32 (Z.b.2 : Int), .int .u16 (Z.c.1 : Int), .int .u16 (Z.c.2 : Int), .int .u16 (Z.d.1 : Int), .int .u16 (Z.d.2 : Int), .int .u8 (Z.m.1 : Int), .int .u8 (Z.m.2 : Int)] rfl rfl 41 _ hR.out (Nat.le_of_ble_eq_true rfl) rfl (by kernel_rfl) rfl ?_; intro w3 h3 ho3)
      refine bodyPost_ret (results_blk2 Tryz.results47 rfl h3 Tryz.underlying41 rfl (by kernel_rfl)) rfl ⟨?_, hbr.out.trans (ho3.below (by omega))⟩
      rw [HE.out, show meetX X Y = Z by unfold meetX; rw [HE.out, HZ.out]; rfl]
      rfl
end Go.Proofs.YtebljklpkoheaaaGreat
