/-
  box.Check. Written by tools/mkBxC.py.
-/
import Derived.Test.YtebljklpkoheaaaGreatBxP
import Derived.Test.YtebljklpkoheaaaGreatBxI
namespace Go.Proofs.YtebljklpkoheaaaGreat
open Go.RowKit
set_option linter.unusedVariables false
set_option linter.unusedSimpArgs false

theorem chkR_of (s : Nat × Nat) : chkR s.1 s.2 = if okI s then 0 else 70 := by
  unfold chkR okI
  by_cases h : s.2 < s.1
  · rw [if_pos h, decide_eq_false (by omega)]; rfl
  · rw [if_neg h, decide_eq_true (by omega)]; rfl
theorem chkS_of (s : Nat × Nat) : chkS s.1 s.2 = if okI s then 0 else 30 := by
  unfold chkS okI
  by_cases h : s.2 < s.1
  · rw [if_pos h, decide_eq_false (by omega)]; rfl
  · rw [if_neg h, decide_eq_true (by omega)]; rfl
theorem chkM_of (v c : Nat) : chk v c = if okM v c then 0 else 40 := rfl
/-- The first k fields may be. -/
def okK (X : Bx) (k : Nat) : Prop := (0 < k → okI X.a = true) ∧ (1 < k → okI X.b = true) ∧ (2 < k → okI X.c = true) ∧ (3 < k → okI X.d = true) ∧ (4 < k → okM X.m.1 X.m.2 = true)
set_option maxRecDepth 20000 in
set_option maxHeartbeats 2000000 in
theorem checkC : CheckC := by
  intro X w b
  have HB : Hid (BdX X) := b
  clear b
  go_enter Tryz.func54, Tryz.ntmps54
  go_wp2_with (fail)
  refine (fieldsX _).mono ?_
  rintro e w1 ⟨rfl, hb1⟩
  have hX : Hid (w1.heap[w.heap.size]? = some (.cells #[.int .u32 (X.a.1 : Int), .int .u32 (X.a.2 : Int), .int .u32 (X.b.1 : Int), .int .u32 (X.b.2 : Int), .int .u16 (X.c.1 : Int), .int .u16 (X.c.2 : Int), .int .u16 (X.d.1 : Int), .int .u16 (X.d.2 : Int), .int .u8 (X.m.1 : Int), .int .u8 (X.m.2 : Int)] 41)) := blk_on (blk_new w _) hb1
  have hbl : Hid (Below w.heap.size w w1) := by show Below _ _ _; (repeat (first | assumption | exact Below.refl _ _ | refine Below.drew ?_ | refine bel_drewN ?_ _ | refine Below.setCell ?_ (by first | omega | (simp; done) | (simp; omega)) _ | refine Below.alloc ?_ (by first | omega | (simp; done) | (simp; omega)) _ | refine bel_of ?_ (by assumption)))
  clear hb1
  go_wp2_with (fail)
  go_loopw [7] (fun iv wr => ∃ k : Nat, k ≤ 5 ∧ iv = .int .i64 (k : Int) ∧ Hid (okK X k) ∧ Hid (Below w1.heap.size w1 wr)) (fun iv _ => 5 - (intOf iv).toNat)
  case atStart => exact ⟨0, Nat.zero_le _, rfl, ⟨fun h => by omega, fun h => by omega, fun h => by omega, fun h => by omega, fun h => by omega⟩, Below.refl _ _⟩
  case round =>
    obtain ⟨k, hk, rfl, hok, hbr⟩ := hrel
    obtain ⟨c0, c1, c2, c3, c4, c5, c6, c7, c8, c9⟩ := blk10 (blk_on hX.out hbr.out)
    have hlt := blk_lt (blk_on hX.out hbr.out)
    have n0 : ¬ w.heap.size = wr.heap.size := by omega
    obtain rfl | rfl | rfl | rfl | rfl | rfl : k = 0 ∨ k = 1 ∨ k = 2 ∨ k = 3 ∨ k = 4 ∨ k = 5 := by omega
    · have hix := idx_src
      go_wp2_with (fail)
      refine (src1 X _ HB.out).mono ?_
      rintro e w2 ⟨rfl, hb2⟩
      have hbw : Hid (Below w1.heap.size w1 w2) := (hbr.out.alloc hbr.out.size _).trans (hb2.mono (by have := hbr.out.size; simp; omega))
      clear hb2 c0 c1 c2 c3 c4 c5 c6 c7 c8 c9
      cases ho : okI X.a
      · rw [show chkR X.a.1 X.a.2 = 70 by rw [chkR_of, ho]; rfl]
        have HE : Hid (((70 : Int)) = chkX X) := by
          show _ = _
          unfold chkX
          rw [ho]
          rfl
        clear ho
        go_wp2_with (fail)
        go_ret
        exact ⟨ret_int HE.out, hbl.out.trans (hbw.out.mono hbl.out.size)⟩
      · rw [show chkR X.a.1 X.a.2 = 0 by rw [chkR_of, ho]; rfl]
        have HO : Hid (okI X.a = true) := ho
        clear ho
        go_wp2_with (fail)
        go_roundw
        case rel => exact ⟨1, by omega, rfl, ⟨fun _ => HO.out, fun h => by omega, fun h => by omega, fun h => by omega, fun h => by omega⟩, hbw.out⟩
        case measure => simp [intOf]
    · have hix := idx_dst
      go_wp2_with (fail)
      refine (dst1 X _ HB.out).mono ?_
      rintro e w2 ⟨rfl, hb2⟩
      have hbw : Hid (Below w1.heap.size w1 w2) := (hbr.out.alloc hbr.out.size _).trans (hb2.mono (by have := hbr.out.size; simp; omega))
      clear hb2 c0 c1 c2 c3 c4 c5 c6 c7 c8 c9
      cases ho : okI X.b
      · rw [show chkR X.b.1 X.b.2 = 70 by rw [chkR_of, ho]; rfl]
        have HE : Hid (((70 : Int)) = chkX X) := by
          show _ = _
          unfold chkX
          rw [hok.out.1 (by omega), ho]
          rfl
        clear ho
        go_wp2_with (fail)
        go_ret
        exact ⟨ret_int HE.out, hbl.out.trans (hbw.out.mono hbl.out.size)⟩
      · rw [show chkR X.b.1 X.b.2 = 0 by rw [chkR_of, ho]; rfl]
        have HO : Hid (okI X.b = true) := ho
        clear ho
        go_wp2_with (fail)
        go_roundw
        case rel => exact ⟨2, by omega, rfl, ⟨fun h => hok.out.1 (by omega), fun _ => HO.out, fun h => by omega, fun h => by omega, fun h => by omega⟩, hbw.out⟩
        case measure => simp [intOf]
    · have hix := idx_sport
      go_wp2_with (fail)
      refine (sport1 X _ HB.out).mono ?_
      rintro e w2 ⟨rfl, hb2⟩
      have hbw : Hid (Below w1.heap.size w1 w2) := (hbr.out.alloc hbr.out.size _).trans (hb2.mono (by have := hbr.out.size; simp; omega))
      clear hb2 c0 c1 c2 c3 c4 c5 c6 c7 c8 c9
      cases ho : okI X.c
      · rw [show chkS X.c.1 X.c.2 = 30 by rw [chkS_of, ho]; rfl]
        have HE : Hid (((30 : Int)) = chkX X) := by
          show _ = _
          unfold chkX
          rw [hok.out.1 (by omega), hok.out.2.1 (by omega), ho]
          rfl
        clear ho
        go_wp2_with (fail)
        go_ret
        exact ⟨ret_int HE.out, hbl.out.trans (hbw.out.mono hbl.out.size)⟩
      · rw [show chkS X.c.1 X.c.2 = 0 by rw [chkS_of, ho]; rfl]
        have HO : Hid (okI X.c = true) := ho
        clear ho
        go_wp2_with (fail)
        go_roundw
        case rel => exact ⟨3, by omega, rfl, ⟨fun h => hok.out.1 (by omega), fun h => hok.out.2.1 (by omega), fun _ => HO.out, fun h => by omega, fun h => by omega⟩, hbw.out⟩
        case measure => simp [intOf]
    · have hix := idx_dport
      go_wp2_with (fail)
      refine (dport1 X _ HB.out).mono ?_
      rintro e w2 ⟨rfl, hb2⟩
      have hbw : Hid (Below w1.heap.size w1 w2) := (hbr.out.alloc hbr.out.size _).trans (hb2.mono (by have := hbr.out.size; simp; omega))
      clear hb2 c0 c1 c2 c3 c4 c5 c6 c7 c8 c9
      cases ho : okI X.d
      · rw [show chkS X.d.1 X.d.2 = 30 by rw [chkS_of, ho]; rfl]
        have HE : Hid (((30 : Int)) = chkX X) := by
          show _ = _
          unfold chkX
          rw [hok.out.1 (by omega), hok.out.2.1 (by omega), hok.out.2.2.1 (by omega), ho]
          rfl
        clear ho
        go_wp2_with (fail)
        go_ret
        exact ⟨ret_int HE.out, hbl.out.trans (hbw.out.mono hbl.out.size)⟩
      · rw [show chkS X.d.1 X.d.2 = 0 by rw [chkS_of, ho]; rfl]
        have HO : Hid (okI X.d = true) := ho
        clear ho
        go_wp2_with (fail)
        go_roundw
        case rel => exact ⟨4, by omega, rfl, ⟨fun h => hok.out.1 (by omega), fun h => hok.out.2.1 (by omega), fun h => hok.out.2.2.1 (by omega), fun _ => HO.out, fun h => by omega⟩, hbw.out⟩
        case measure => simp [intOf]
    · have hix := idx_proto
      go_wp2_with (fail)
      refine (proto1 X _ HB.out).mono ?_
      rintro e w2 ⟨rfl, hb2⟩
      have hbw : Hid (Below w1.heap.size w1 w2) := (hbr.out.alloc hbr.out.size _).trans (hb2.mono (by have := hbr.out.size; simp; omega))
      clear hb2 c0 c1 c2 c3 c4 c5 c6 c7 c8 c9
      cases ho : okM X.m.1 X.m.2
      · rw [show chk X.m.1 X.m.2 = 40 by rw [chkM_of, ho]; rfl]
        have HE : Hid (((40 : Int)) = chkX X) := by
          show _ = _
          unfold chkX
          rw [hok.out.1 (by omega), hok.out.2.1 (by omega), hok.out.2.2.1 (by omega), hok.out.2.2.2.1 (by omega), ho]
          rfl
        clear ho
        go_wp2_with (fail)
        go_ret
        exact ⟨ret_int HE.out, hbl.out.trans (hbw.out.mono hbl.out.size)⟩
      · rw [show chk X.m.1 X.m.2 = 0 by rw [chkM_of, ho]; rfl]
        have HO : Hid (okM X.m.1 X.m.2 = true) := ho
        clear ho
        go_wp2_with (fail)
        go_roundw
        case rel => exact ⟨5, by omega, rfl, ⟨fun h => hok.out.1 (by omega), fun h => hok.out.2.1 (by omega), fun h => hok.out.2.2.1 (by omega), fun h => hok.out.2.2.2.1 (by omega), fun _ => HO.out⟩, hbw.out⟩
        case measure => simp [intOf]
    · have HE : Hid (((0 : Int)) = chkX X) := ((chkX_ok).2 ((okX_iff X).2 ⟨hok.out.1 (by omega), hok.out.2.1 (by omega), hok.out.2.2.1 (by omega), hok.out.2.2.2.1 (by omega), hok.out.2.2.2.2 (by omega)⟩)).symm
      go_wp2_with (fail)
      go_ret
      exact ⟨ret_int HE.out, hbl.out.trans (hbr.out.mono hbl.out.size)⟩
end Go.Proofs.YtebljklpkoheaaaGreat
