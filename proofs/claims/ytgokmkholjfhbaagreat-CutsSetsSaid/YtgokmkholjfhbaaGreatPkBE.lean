/-
  PkBE: BxC BxB, one behind the other (tools/pack.py).
-/
import Derived.Test.YtgokmkholjfhbaaGreatPkBD
import Derived.Test.YtgokmkholjfhbaaGreatPkAE
set_option linter.unusedVariables false
set_option linter.unusedSimpArgs false
namespace Go.Proofs.YtgokmkholjfhbaaGreat.Xb
open Go.RowKit
theorem chkR_of (s : Nat × Nat) : chkR s.1 s.2 = if okI s then 0 else 70 := by
 unfold chkR okI
 by_cases h : s.2 < s.1
 ·rw [if_pos h, decide_eq_false (by omega)]; rfl
 ·rw [if_neg h, decide_eq_true (by omega)]; rfl
theorem chkS_of (s : Nat × Nat) : chkS s.1 s.2 = if okI s then 0 else 30 := by
 unfold chkS okI
 by_cases h : s.2 < s.1
 ·rw [if_pos h, decide_eq_false (by omega)]; rfl
 ·rw [if_neg h, decide_eq_true (by omega)]; rfl
theorem chkM_of (v c : Nat) : chk v c = if okM v c then 0 else 40 := rfl
def okK (X : Bx) (k : Nat) : Prop := (0 < k → okI X.a = true) ∧ (1 < k → okI X.b = true) ∧ (2 < k → okI X.c = true) ∧ (3 < k → okI X.d = true) ∧ (4 < k → okM X.m.1 X.m.2 = true)
set_option maxRecDepth 20000 in
set_option maxHeartbeats 2000000 in
theorem checkC : CheckC := by
 intro X w b
 have HB : Hid (BdX X) := b
 clear b
 go_enter Tryz.func49, Tryz.ntmps49
 go_wp2_with (fail)
 refine (fieldsX _).mono ?_
 rintro e w1 ⟨rfl, hb1⟩
 have hX : Hid (w1.heap[w.heap.size]? = some (.cells #[.int .u32 X.a.1, .int .u32 X.a.2, .int .u32 X.b.1, .int .u32 X.b.2, .int .u16 X.c.1, .int .u16 X.c.2, .int .u16 X.d.1, .int .u16 X.d.2, .int .u8 X.m.1, .int .u8 X.m.2] 74)) := blk_on (blk_new w _) hb1
 have hbl : Hid (Below w.heap.size w w1) := by show Below _ _ _; exact belA
 clear hb1
 go_wp2_with (fail)
 go_loopw [7] (fun iv wr => ∃ k : Nat, k ≤ 5 ∧ iv = .int .i64 k ∧ Hid (okK X k) ∧ Hid (Below w1.heap.size w1 wr)) (fun iv _ => 5 - (intOf iv).toNat)
 case atStart => exact ⟨0, Nat.zero_le _, rfl, ⟨fun h => by omega, fun h => by omega, fun h => by omega, fun h => by omega, fun h => by omega⟩, Below.refl _ _⟩
 case round =>
  obtain ⟨k, hk, rfl, hok, hbr⟩ := hrel
  obtain ⟨c0, c1, c2, c3, c4, c5, c6, c7, c8, c9⟩ := blk10 (blk_on hX.out hbr.out)
  have hlt := blk_lt (blk_on hX.out hbr.out)
  have n0 : ¬ w.heap.size = wr.heap.size := by omega
  obtain rfl | rfl | rfl | rfl | rfl | rfl : k = 0 ∨ k = 1 ∨ k = 2 ∨ k = 3 ∨ k = 4 ∨ k = 5 := by omega
  ·have hix := idx_src
   go_wp2_with (fail)
   refine (src1 X _ HB.out).mono ?_
   rintro e w2 ⟨rfl, hb2⟩
   have hbw : Hid (Below w1.heap.size w1 w2) := (hbr.out.alloc hbr.out.size _).trans (hb2.mono (by have := hbr.out.size; simp; omega))
   clear hb2 c0 c1 c2 c3 c4 c5 c6 c7 c8 c9
   cases ho : okI X.a
   ·rw [show chkR X.a.1 X.a.2 = 70 by rw [chkR_of, ho]; rfl]
    have HE : Hid (((70 : Int)) = chkX X) := by
     show _ = _
     unfold chkX
     rw [ho]
     rfl
    clear ho
    go_wp2_with (fail)
    go_ret
    exact ⟨ret_int HE.out, hbl.out.trans (hbw.out.mono hbl.out.size)⟩
   ·rw [show chkR X.a.1 X.a.2 = 0 by rw [chkR_of, ho]; rfl]
    have HO : Hid (okI X.a = true) := ho
    clear ho
    go_wp2_with (fail)
    go_roundw
    case rel => exact ⟨1, by omega, rfl, ⟨fun _ => HO.out, fun h => by omega, fun h => by omega, fun h => by omega, fun h => by omega⟩, hbw.out⟩
    case measure => simp [intOf]
  ·have hix := idx_dst
   go_wp2_with (fail)
   refine (dst1 X _ HB.out).mono ?_
   rintro e w2 ⟨rfl, hb2⟩
   have hbw : Hid (Below w1.heap.size w1 w2) := (hbr.out.alloc hbr.out.size _).trans (hb2.mono (by have := hbr.out.size; simp; omega))
   clear hb2 c0 c1 c2 c3 c4 c5 c6 c7 c8 c9
   cases ho : okI X.b
   ·rw [show chkR X.b.1 X.b.2 = 70 by rw [chkR_of, ho]; rfl]
    have HE : Hid (((70 : Int)) = chkX X) := by
     show _ = _
     unfold chkX
     rw [hok.out.1 (by omega), ho]
     rfl
    clear ho
    go_wp2_with (fail)
    go_ret
    exact ⟨ret_int HE.out, hbl.out.trans (hbw.out.mono hbl.out.size)⟩
   ·rw [show chkR X.b.1 X.b.2 = 0 by rw [chkR_of, ho]; rfl]
    have HO : Hid (okI X.b = true) := ho
    clear ho
    go_wp2_with (fail)
    go_roundw
    case rel => exact ⟨2, by omega, rfl, ⟨fun h => hok.out.1 (by omega), fun _ => HO.out, fun h => by omega, fun h => by omega, fun h => by omega⟩, hbw.out⟩
    case measure => simp [intOf]
  ·have hix := idx_sport
   go_wp2_with (fail)
   refine (sport1 X _ HB.out).mono ?_
   rintro e w2 ⟨rfl, hb2⟩
   have hbw : Hid (Below w1.heap.size w1 w2) := (hbr.out.alloc hbr.out.size _).trans (hb2.mono (by have := hbr.out.size; simp; omega))
   clear hb2 c0 c1 c2 c3 c4 c5 c6 c7 c8 c9
   cases ho : okI X.c
   ·rw [show chkS X.c.1 X.c.2 = 30 by rw [chkS_of, ho]; rfl]
    have HE : Hid (((30 : Int)) = chkX X) := by
     show _ = _
     unfold chkX
     rw [hok.out.1 (by omega), hok.out.2.1 (by omega), ho]
     rfl
    clear ho
    go_wp2_with (fail)
    go_ret
    exact ⟨ret_int HE.out, hbl.out.trans (hbw.out.mono hbl.out.size)⟩
   ·rw [show chkS X.c.1 X.c.2 = 0 by rw [chkS_of, ho]; rfl]
    have HO : Hid (okI X.c = true) := ho
    clear ho
    go_wp2_with (fail)
    go_roundw
    case rel => exact ⟨3, by omega, rfl, ⟨fun h => hok.out.1 (by omega), fun h => hok.out.2.1 (by omega), fun _ => HO.out, fun h => by omega, fun h => by omega⟩, hbw.out⟩
    case measure => simp [intOf]
  ·have hix := idx_dport
   go_wp2_with (fail)
   refine (dport1 X _ HB.out).mono ?_
   rintro e w2 ⟨rfl, hb2⟩
   have hbw : Hid (Below w1.heap.size w1 w2) := (hbr.out.alloc hbr.out.size _).trans (hb2.mono (by have := hbr.out.size; simp; omega))
   clear hb2 c0 c1 c2 c3 c4 c5 c6 c7 c8 c9
   cases ho : okI X.d
   ·rw [show chkS X.d.1 X.d.2 = 30 by rw [chkS_of, ho]; rfl]
    have HE : Hid (((30 : Int)) = chkX X) := by
     show _ = _
     unfold chkX
     rw [hok.out.1 (by omega), hok.out.2.1 (by omega), hok.out.2.2.1 (by omega), ho]
     rfl
    clear ho
    go_wp2_with (fail)
    go_ret
    exact ⟨ret_int HE.out, hbl.out.trans (hbw.out.mono hbl.out.size)⟩
   ·rw [show chkS X.d.1 X.d.2 = 0 by rw [chkS_of, ho]; rfl]
    have HO : Hid (okI X.d = true) := ho
    clear ho
    go_wp2_with (fail)
    go_roundw
    case rel => exact ⟨4, by omega, rfl, ⟨fun h => hok.out.1 (by omega), fun h => hok.out.2.1 (by omega), fun h => hok.out.2.2.1 (by omega), fun _ => HO.out, fun h => by omega⟩, hbw.out⟩
    case measure => simp [intOf]
  ·have hix := idx_proto
   go_wp2_with (fail)
   refine (proto1 X _ HB.out).mono ?_
   rintro e w2 ⟨rfl, hb2⟩
   have hbw : Hid (Below w1.heap.size w1 w2) := (hbr.out.alloc hbr.out.size _).trans (hb2.mono (by have := hbr.out.size; simp; omega))
   clear hb2 c0 c1 c2 c3 c4 c5 c6 c7 c8 c9
   cases ho : okM X.m.1 X.m.2
   ·rw [show chk X.m.1 X.m.2 = 40 by rw [chkM_of, ho]; rfl]
    have HE : Hid (((40 : Int)) = chkX X) := by
     show _ = _
     unfold chkX
     rw [hok.out.1 (by omega), hok.out.2.1 (by omega), hok.out.2.2.1 (by omega), hok.out.2.2.2.1 (by omega), ho]
     rfl
    clear ho
    go_wp2_with (fail)
    go_ret
    exact ⟨ret_int HE.out, hbl.out.trans (hbw.out.mono hbl.out.size)⟩
   ·rw [show chk X.m.1 X.m.2 = 0 by rw [chkM_of, ho]; rfl]
    have HO : Hid (okM X.m.1 X.m.2 = true) := ho
    clear ho
    go_wp2_with (fail)
    go_roundw
    case rel => exact ⟨5, by omega, rfl, ⟨fun h => hok.out.1 (by omega), fun h => hok.out.2.1 (by omega), fun h => hok.out.2.2.1 (by omega), fun h => hok.out.2.2.2.1 (by omega), fun _ => HO.out⟩, hbw.out⟩
    case measure => simp [intOf]
  ·have HE : Hid (((0 : Int)) = chkX X) := ((chkX_ok).2 ((okX_iff X).2 ⟨hok.out.1 (by omega), hok.out.2.1 (by omega), hok.out.2.2.1 (by omega), hok.out.2.2.2.1 (by omega), hok.out.2.2.2.2 (by omega)⟩)).symm
   go_wp2_with (fail)
   go_ret
   exact ⟨ret_int HE.out, hbl.out.trans (hbr.out.mono hbl.out.size)⟩
def brS (X : Bx) (g : Hd) : Nat → Hd
 | 0 => ⟨brI X.a g.s, g.d, g.p, g.q, g.r⟩
 | 1 => ⟨g.s, brI X.b g.d, g.p, g.q, g.r⟩
 | 2 => ⟨g.s, g.d, brI X.c g.p, g.q, g.r⟩
 | 3 => ⟨g.s, g.d, g.p, brI X.d g.q, g.r⟩
 | _ => ⟨g.s, g.d, g.p, g.q, brM X.m g.r⟩
def brK (X : Bx) (h : Hd) : Nat → Hd
 | 0 => h
 | k + 1 => brS X (brK X h k) k
def brX (X : Bx) (h : Hd) : Hd := ⟨brI X.a h.s, brI X.b h.d, brI X.c h.p, brI X.d h.q, brM X.m h.r⟩
theorem brI_lt {s : Nat × Nat} {x n : Nat} (h : s.2 < n) : brI s x < n := by unfold brI; omega
theorem brM_lt {m : Nat × Nat} {x : Nat} (h : m.1 < 256) (hx : x < 256) : brM m x < 256 := or_lt (and_lt hx) h
theorem brS_ok {X : Bx} {g : Hd} (b : BdX X) (o : OkH g) : ∀ k, OkH (brS X g k)
 | 0 => ⟨brI_lt b.2.1, o.2⟩
 | 1 => ⟨o.1, brI_lt b.2.2.2.1, o.2.2⟩
 | 2 => ⟨o.1, o.2.1, brI_lt b.2.2.2.2.2.1, o.2.2.2⟩
 | 3 => ⟨o.1, o.2.1, o.2.2.1, brI_lt b.2.2.2.2.2.2.2.1, o.2.2.2.2⟩
 | _ + 4 => ⟨o.1, o.2.1, o.2.2.1, o.2.2.2.1, brM_lt b.2.2.2.2.2.2.2.2.1 o.2.2.2.2⟩
theorem brK_ok {X : Bx} {h : Hd} (b : BdX X) (o : OkH h) : ∀ k, OkH (brK X h k)
 | 0 => o
 | k + 1 => brS_ok b (brK_ok b o k) k
theorem brI_self {s : Nat × Nat} (h : okI s = true) (x : Nat) : decide (brI s x = x) = hasI s x := by
 have := of_decide_eq_true h
 unfold brI hasI
 rw [decide_eq_decide]
 omega
theorem brM_self {m : Nat × Nat} (h : okM m.1 m.2 = true) (h1 : m.1 < 256) (h2 : m.2 < 256) {x : Nat} (hx : x < 256) : decide (brM m x = x) = hasM m.1 m.2 x := by
 have hv := (ok_andNot h2 h1).2 h
 rw [Bool.eq_iff_iff, decide_eq_true_eq]
 unfold brM hasM
 rw [decide_eq_true_eq]
 have hn : ∀ i, (255 - m.2).testBit i = (decide (i < 8) && !m.2.testBit i) := not8 h2
 have hvi : ∀ i, m.1.testBit i = true → m.2.testBit i = true := fun i hi => by
  have := congrArg (fun y : Nat => y.testBit i) hv
  simp only [Nat.testBit_and, hn, hi, Nat.zero_testBit, Bool.true_and] at this
  by_cases h8 : i < 8
  ·simpa [h8] using this
  ·rw [test_ge h1 (by omega)] at hi; cases hi
 have hx8 : ∀ i, x.testBit i = true → i < 8 := fun i hi => by
  rcases Nat.lt_or_ge i 8 with h | h
  ·exact h
  ·rw [test_ge hx h] at hi; cases hi
 constructor
 ·intro e
  apply Nat.eq_of_testBit_eq
  intro i
  have := congrArg (fun y : Nat => y.testBit i) e
  simp only [Nat.testBit_or, Nat.testBit_and, hn] at this
  rw [Nat.testBit_and]
  have a1 := hvi i
  have a2 := hx8 i
  by_cases h8 : i < 8
  ·simp only [h8, decide_true, Bool.true_and] at this
   cases hxi : x.testBit i <;> cases hci : m.2.testBit i <;> cases hmi : m.1.testBit i <;> simp_all
  ·simp only [h8, decide_false, Bool.false_and, Bool.and_false, Bool.false_or] at this
   cases hxi : x.testBit i <;> cases hci : m.2.testBit i <;> cases hmi : m.1.testBit i <;> simp_all
 ·intro e
  apply Nat.eq_of_testBit_eq
  intro i
  have := congrArg (fun y : Nat => y.testBit i) e
  simp only [Nat.testBit_and] at this
  rw [Nat.testBit_or, Nat.testBit_and, hn]
  have a1 := hvi i
  have a2 := hx8 i
  by_cases h8 : i < 8
  ·simp only [h8, decide_true, Bool.true_and]
   cases hxi : x.testBit i <;> cases hci : m.2.testBit i <;> cases hmi : m.1.testBit i <;> simp_all
  ·simp only [h8, decide_false, Bool.false_and, Bool.and_false, Bool.false_or]
   cases hxi : x.testBit i <;> cases hci : m.2.testBit i <;> cases hmi : m.1.testBit i <;> simp_all
theorem brX_self {X : Bx} (b : BdX X) (h : okX X = true) {g : Hd} (o : OkH g) : decide (brX X g = g) = hasH X g := by
 obtain ⟨h1, h2, h3, h4, h5⟩ := (okX_iff X).1 h
 unfold hasH hasX
 rw [h, Bool.true_and, ← brI_self h1, ← brI_self h2, ← brI_self h3, ← brI_self h4, ← brM_self h5 b.2.2.2.2.2.2.2.2.1 b.2.2.2.2.2.2.2.2.2 o.2.2.2.2, Bool.eq_iff_iff]
 obtain ⟨s, d, p, q, r⟩ := g
 unfold brX
 simp only [decide_eq_true_eq, Bool.and_eq_true, Hd.mk.injEq, and_assoc]
set_option maxRecDepth 20000 in
set_option maxHeartbeats 2000000 in
theorem bringX (X : Bx) (h : Hd) (w : World) (b : BdX X) (o : OkH h) :
  Calls Tryz.prog 50 #[.agg #[.int .u32 h.s, .int .u32 h.d, .int .u16 h.p, .int .u16 h.q, .int .u8 h.r], .agg #[.int .u32 X.a.1, .int .u32 X.a.2, .int .u32 X.b.1, .int .u32 X.b.2, .int .u16 X.c.1, .int .u16 X.c.2, .int .u16 X.d.1, .int .u16 X.d.2, .int .u8 X.m.1, .int .u8 X.m.2]] w fun e w' => e = .returned (.agg #[.int .u32 ((brX X h).s : Int), .int .u32 ((brX X h).d : Int), .int .u16 ((brX X h).p : Int), .int .u16 ((brX X h).q : Int), .int .u8 ((brX X h).r : Int)]) ∧ Below w.heap.size w w' := by
 have HB : Hid (BdX X) := b
 have HO : Hid (OkH h) := o
 clear b o
 go_enter Tryz.func50, Tryz.ntmps50
 go_wp2_with (fail)
 refine (fieldsX _).mono ?_
 rintro e w1 ⟨rfl, hb1⟩
 have hH : Hid (w1.heap[w.heap.size]? = some (.cells #[.int .u32 h.s, .int .u32 h.d, .int .u16 h.p, .int .u16 h.q, .int .u8 h.r] 28)) := blk_on (blk_alloc (blk_alloc (blk_new w _) _) _) hb1
 have hX : Hid (w1.heap[w.heap.size + 1]? = some (.cells #[.int .u32 X.a.1, .int .u32 X.a.2, .int .u32 X.b.1, .int .u32 X.b.2, .int .u16 X.c.1, .int .u16 X.c.2, .int .u16 X.d.1, .int .u16 X.d.2, .int .u8 X.m.1, .int .u8 X.m.2] 74)) := blk_on (blk_alloc (by simpa using blk_new (w.alloc (.cells #[.int .u32 h.s, .int .u32 h.d, .int .u16 h.p, .int .u16 h.q, .int .u8 h.r] 28)) (.cells #[.int .u32 X.a.1, .int .u32 X.a.2, .int .u32 X.b.1, .int .u32 X.b.2, .int .u16 X.c.1, .int .u16 X.c.2, .int .u16 X.d.1, .int .u16 X.d.2, .int .u8 X.m.1, .int .u8 X.m.2] 74)) _) hb1
 have hR : Hid (w1.heap[w.heap.size + 1 + 1]? = some (.cells #[.int .u32 0, .int .u32 0, .int .u16 0, .int .u16 0, .int .u8 0] 28)) := blk_on (by simpa using blk_new ((w.alloc (.cells #[.int .u32 h.s, .int .u32 h.d, .int .u16 h.p, .int .u16 h.q, .int .u8 h.r] 28)).alloc (.cells #[.int .u32 X.a.1, .int .u32 X.a.2, .int .u32 X.b.1, .int .u32 X.b.2, .int .u16 X.c.1, .int .u16 X.c.2, .int .u16 X.d.1, .int .u16 X.d.2, .int .u8 X.m.1, .int .u8 X.m.2] 74)) (.cells #[.int .u32 0, .int .u32 0, .int .u16 0, .int .u16 0, .int .u8 0] 28)) hb1
 have hbl : Hid (Below w.heap.size w w1) := by show Below _ _ _; exact belA
 clear hb1
 go_wp2_with (fail)
 go_loopw [8] (fun iv wr => ∃ (k : Nat) (g : Hd), k ≤ 5 ∧ iv = .int .i64 k ∧ Hid (g = brK X h k) ∧ Hid (wr.heap[w.heap.size]? = some (.cells #[.int .u32 g.s, .int .u32 g.d, .int .u16 g.p, .int .u16 g.q, .int .u8 g.r] 28)) ∧ Hid (wr.heap[w.heap.size + 1]? = some (.cells #[.int .u32 X.a.1, .int .u32 X.a.2, .int .u32 X.b.1, .int .u32 X.b.2, .int .u16 X.c.1, .int .u16 X.c.2, .int .u16 X.d.1, .int .u16 X.d.2, .int .u8 X.m.1, .int .u8 X.m.2] 74)) ∧ Hid (wr.heap[w.heap.size + 1 + 1]? = some (.cells #[.int .u32 0, .int .u32 0, .int .u16 0, .int .u16 0, .int .u8 0] 28)) ∧ Hid (Below w.heap.size w wr)) (fun iv _ => 5 - (intOf iv).toNat)
 case atStart => exact ⟨0, h, Nat.zero_le _, rfl, rfl, hH.out, hX.out, hR.out, hbl.out⟩
 case round =>
  obtain ⟨k, g, hk, rfl, hg, hH, hX, hR, hbr⟩ := hrel
  obtain ⟨c0, c1, c2, c3, c4, c5, c6, c7, c8, c9⟩ := blk10 hX.out
  obtain ⟨d0, d1, d2, d3, d4⟩ := blk5 hH.out
  have hlt := blk_lt hR.out
  have hlt1 : w.heap.size < wr.heap.size := by omega
  have hlt2 : w.heap.size + 1 < wr.heap.size := by omega
  have n0 : ¬ w.heap.size = wr.heap.size := by omega
  have n1 : ¬ w.heap.size + 1 = wr.heap.size := by omega
  have hgo : Hid (OkH g) := by show OkH g; rw [hg.out]; exact brK_ok HB.out HO.out k
  obtain rfl | rfl | rfl | rfl | rfl | rfl : k = 0 ∨ k = 1 ∨ k = 2 ∨ k = 3 ∨ k = 4 ∨ k = 5 := by omega
  ·have hix := idx_src
   have hM := fun W => src3 X g W HB.out hgo.out
   obtain ⟨z, hz⟩ : ∃ z, z = brI X.a g.s := ⟨_, rfl⟩
   rw [← hz] at hM
   have HZ : Hid ((⟨z, g.d, g.p, g.q, g.r⟩ : Hd) = brK X h 1) := by show _ = _; rw [hz, hg.out]; rfl
   clear hz
   go_wp2_with (fail)
   refine (hM _).mono ?_
   rintro e w2 ⟨rfl, hb2⟩
   have hH2 := blk_on (blk_alloc hH.out _) hb2
   have hX2 : Hid (w2.heap[w.heap.size + 1]? = some (.cells #[.int .u32 X.a.1, .int .u32 X.a.2, .int .u32 X.b.1, .int .u32 X.b.2, .int .u16 X.c.1, .int .u16 X.c.2, .int .u16 X.d.1, .int .u16 X.d.2, .int .u8 X.m.1, .int .u8 X.m.2] 74)) := blk_on (blk_alloc hX.out _) hb2
   have hR2 : Hid (w2.heap[w.heap.size + 1 + 1]? = some (.cells #[.int .u32 0, .int .u32 0, .int .u16 0, .int .u16 0, .int .u8 0] 28)) := blk_on (blk_alloc hR.out _) hb2
   have hbw : Hid (Below w.heap.size w w2) := (hbr.out.alloc (by omega) _).trans (hb2.mono (by simp; omega))
   clear hb2 c0 c1 c2 c3 c4 c5 c6 c7 c8 c9 d0 d1 d2 d3 d4 hM hix hlt hlt1 hlt2 n0 n1
   go_wp2_with (refine wpList_store_blk rfl 28 (.tmp 2) (.tmp 15) rfl w.heap.size 0 #[.int .u32 z, .int .u32 g.d, .int .u16 g.p, .int .u16 g.q, .int .u8 g.r] #[.int .u32 z, .int .u32 g.d, .int .u16 g.p, .int .u16 g.q, .int .u8 g.r] rfl rfl 28 _ hH2 (Nat.le_of_ble_eq_true rfl) rfl (by kernel_rfl) rfl ?_; intro w3 h3 ho3)
   go_roundw
   case rel => exact ⟨1, ⟨z, g.d, g.p, g.q, g.r⟩, by omega, rfl, HZ.out, h3, by show _ = _; rw [ho3.block _ (by omega)]; exact hX2.out, by show _ = _; rw [ho3.block _ (by omega)]; exact hR2.out, hbw.out.trans (ho3.below (Nat.le_refl _))⟩
   case measure => simp [intOf]
  ·have hix := idx_dst
   have hM := fun W => dst3 X g W HB.out hgo.out
   obtain ⟨z, hz⟩ : ∃ z, z = brI X.b g.d := ⟨_, rfl⟩
   rw [← hz] at hM
   have HZ : Hid ((⟨g.s, z, g.p, g.q, g.r⟩ : Hd) = brK X h 2) := by show _ = _; rw [hz, hg.out]; rfl
   clear hz
   go_wp2_with (fail)
   refine (hM _).mono ?_
   rintro e w2 ⟨rfl, hb2⟩
   have hH2 := blk_on (blk_alloc hH.out _) hb2
   have hX2 : Hid (w2.heap[w.heap.size + 1]? = some (.cells #[.int .u32 X.a.1, .int .u32 X.a.2, .int .u32 X.b.1, .int .u32 X.b.2, .int .u16 X.c.1, .int .u16 X.c.2, .int .u16 X.d.1, .int .u16 X.d.2, .int .u8 X.m.1, .int .u8 X.m.2] 74)) := blk_on (blk_alloc hX.out _) hb2
   have hR2 : Hid (w2.heap[w.heap.size + 1 + 1]? = some (.cells #[.int .u32 0, .int .u32 0, .int .u16 0, .int .u16 0, .int .u8 0] 28)) := blk_on (blk_alloc hR.out _) hb2
   have hbw : Hid (Below w.heap.size w w2) := (hbr.out.alloc (by omega) _).trans (hb2.mono (by simp; omega))
   clear hb2 c0 c1 c2 c3 c4 c5 c6 c7 c8 c9 d0 d1 d2 d3 d4 hM hix hlt hlt1 hlt2 n0 n1
   go_wp2_with (refine wpList_store_blk rfl 28 (.tmp 2) (.tmp 15) rfl w.heap.size 0 #[.int .u32 g.s, .int .u32 z, .int .u16 g.p, .int .u16 g.q, .int .u8 g.r] #[.int .u32 g.s, .int .u32 z, .int .u16 g.p, .int .u16 g.q, .int .u8 g.r] rfl rfl 28 _ hH2 (Nat.le_of_ble_eq_true rfl) rfl (by kernel_rfl) rfl ?_; intro w3 h3 ho3)
   go_roundw
   case rel => exact ⟨2, ⟨g.s, z, g.p, g.q, g.r⟩, by omega, rfl, HZ.out, h3, by show _ = _; rw [ho3.block _ (by omega)]; exact hX2.out, by show _ = _; rw [ho3.block _ (by omega)]; exact hR2.out, hbw.out.trans (ho3.below (Nat.le_refl _))⟩
   case measure => simp [intOf]
  ·have hix := idx_sport
   have hM := fun W => sport3 X g W HB.out hgo.out
   obtain ⟨z, hz⟩ : ∃ z, z = brI X.c g.p := ⟨_, rfl⟩
   rw [← hz] at hM
   have HZ : Hid ((⟨g.s, g.d, z, g.q, g.r⟩ : Hd) = brK X h 3) := by show _ = _; rw [hz, hg.out]; rfl
   clear hz
   go_wp2_with (fail)
   refine (hM _).mono ?_
   rintro e w2 ⟨rfl, hb2⟩
   have hH2 := blk_on (blk_alloc hH.out _) hb2
   have hX2 : Hid (w2.heap[w.heap.size + 1]? = some (.cells #[.int .u32 X.a.1, .int .u32 X.a.2, .int .u32 X.b.1, .int .u32 X.b.2, .int .u16 X.c.1, .int .u16 X.c.2, .int .u16 X.d.1, .int .u16 X.d.2, .int .u8 X.m.1, .int .u8 X.m.2] 74)) := blk_on (blk_alloc hX.out _) hb2
   have hR2 : Hid (w2.heap[w.heap.size + 1 + 1]? = some (.cells #[.int .u32 0, .int .u32 0, .int .u16 0, .int .u16 0, .int .u8 0] 28)) := blk_on (blk_alloc hR.out _) hb2
   have hbw : Hid (Below w.heap.size w w2) := (hbr.out.alloc (by omega) _).trans (hb2.mono (by simp; omega))
   clear hb2 c0 c1 c2 c3 c4 c5 c6 c7 c8 c9 d0 d1 d2 d3 d4 hM hix hlt hlt1 hlt2 n0 n1
   go_wp2_with (refine wpList_store_blk rfl 28 (.tmp 2) (.tmp 15) rfl w.heap.size 0 #[.int .u32 g.s, .int .u32 g.d, .int .u16 z, .int .u16 g.q, .int .u8 g.r] #[.int .u32 g.s, .int .u32 g.d, .int .u16 z, .int .u16 g.q, .int .u8 g.r] rfl rfl 28 _ hH2 (Nat.le_of_ble_eq_true rfl) rfl (by kernel_rfl) rfl ?_; intro w3 h3 ho3)
   go_roundw
   case rel => exact ⟨3, ⟨g.s, g.d, z, g.q, g.r⟩, by omega, rfl, HZ.out, h3, by show _ = _; rw [ho3.block _ (by omega)]; exact hX2.out, by show _ = _; rw [ho3.block _ (by omega)]; exact hR2.out, hbw.out.trans (ho3.below (Nat.le_refl _))⟩
   case measure => simp [intOf]
  ·have hix := idx_dport
   have hM := fun W => dport3 X g W HB.out hgo.out
   obtain ⟨z, hz⟩ : ∃ z, z = brI X.d g.q := ⟨_, rfl⟩
   rw [← hz] at hM
   have HZ : Hid ((⟨g.s, g.d, g.p, z, g.r⟩ : Hd) = brK X h 4) := by show _ = _; rw [hz, hg.out]; rfl
   clear hz
   go_wp2_with (fail)
   refine (hM _).mono ?_
   rintro e w2 ⟨rfl, hb2⟩
   have hH2 := blk_on (blk_alloc hH.out _) hb2
   have hX2 : Hid (w2.heap[w.heap.size + 1]? = some (.cells #[.int .u32 X.a.1, .int .u32 X.a.2, .int .u32 X.b.1, .int .u32 X.b.2, .int .u16 X.c.1, .int .u16 X.c.2, .int .u16 X.d.1, .int .u16 X.d.2, .int .u8 X.m.1, .int .u8 X.m.2] 74)) := blk_on (blk_alloc hX.out _) hb2
   have hR2 : Hid (w2.heap[w.heap.size + 1 + 1]? = some (.cells #[.int .u32 0, .int .u32 0, .int .u16 0, .int .u16 0, .int .u8 0] 28)) := blk_on (blk_alloc hR.out _) hb2
   have hbw : Hid (Below w.heap.size w w2) := (hbr.out.alloc (by omega) _).trans (hb2.mono (by simp; omega))
   clear hb2 c0 c1 c2 c3 c4 c5 c6 c7 c8 c9 d0 d1 d2 d3 d4 hM hix hlt hlt1 hlt2 n0 n1
   go_wp2_with (refine wpList_store_blk rfl 28 (.tmp 2) (.tmp 15) rfl w.heap.size 0 #[.int .u32 g.s, .int .u32 g.d, .int .u16 g.p, .int .u16 z, .int .u8 g.r] #[.int .u32 g.s, .int .u32 g.d, .int .u16 g.p, .int .u16 z, .int .u8 g.r] rfl rfl 28 _ hH2 (Nat.le_of_ble_eq_true rfl) rfl (by kernel_rfl) rfl ?_; intro w3 h3 ho3)
   go_roundw
   case rel => exact ⟨4, ⟨g.s, g.d, g.p, z, g.r⟩, by omega, rfl, HZ.out, h3, by show _ = _; rw [ho3.block _ (by omega)]; exact hX2.out, by show _ = _; rw [ho3.block _ (by omega)]; exact hR2.out, hbw.out.trans (ho3.below (Nat.le_refl _))⟩
   case measure => simp [intOf]
  ·have hix := idx_proto
   have hM := fun W => proto3 X g W HB.out hgo.out
   obtain ⟨z, hz⟩ : ∃ z, z = brM X.m g.r := ⟨_, rfl⟩
   rw [← hz] at hM
   have HZ : Hid ((⟨g.s, g.d, g.p, g.q, z⟩ : Hd) = brK X h 5) := by show _ = _; rw [hz, hg.out]; rfl
   clear hz
   go_wp2_with (fail)
   refine (hM _).mono ?_
   rintro e w2 ⟨rfl, hb2⟩
   have hH2 := blk_on (blk_alloc hH.out _) hb2
   have hX2 : Hid (w2.heap[w.heap.size + 1]? = some (.cells #[.int .u32 X.a.1, .int .u32 X.a.2, .int .u32 X.b.1, .int .u32 X.b.2, .int .u16 X.c.1, .int .u16 X.c.2, .int .u16 X.d.1, .int .u16 X.d.2, .int .u8 X.m.1, .int .u8 X.m.2] 74)) := blk_on (blk_alloc hX.out _) hb2
   have hR2 : Hid (w2.heap[w.heap.size + 1 + 1]? = some (.cells #[.int .u32 0, .int .u32 0, .int .u16 0, .int .u16 0, .int .u8 0] 28)) := blk_on (blk_alloc hR.out _) hb2
   have hbw : Hid (Below w.heap.size w w2) := (hbr.out.alloc (by omega) _).trans (hb2.mono (by simp; omega))
   clear hb2 c0 c1 c2 c3 c4 c5 c6 c7 c8 c9 d0 d1 d2 d3 d4 hM hix hlt hlt1 hlt2 n0 n1
   go_wp2_with (refine wpList_store_blk rfl 28 (.tmp 2) (.tmp 15) rfl w.heap.size 0 #[.int .u32 g.s, .int .u32 g.d, .int .u16 g.p, .int .u16 g.q, .int .u8 z] #[.int .u32 g.s, .int .u32 g.d, .int .u16 g.p, .int .u16 g.q, .int .u8 z] rfl rfl 28 _ hH2 (Nat.le_of_ble_eq_true rfl) rfl (by kernel_rfl) rfl ?_; intro w3 h3 ho3)
   go_roundw
   case rel => exact ⟨5, ⟨g.s, g.d, g.p, g.q, z⟩, by omega, rfl, HZ.out, h3, by show _ = _; rw [ho3.block _ (by omega)]; exact hX2.out, by show _ = _; rw [ho3.block _ (by omega)]; exact hR2.out, hbw.out.trans (ho3.below (Nat.le_refl _))⟩
   case measure => simp [intOf]
  ·have HZ : Hid (g = brX X h) := hg.out
   go_wp2_with (refine wpList_store_blk rfl 28 (.tmp 4) (.tmp 17) rfl (w.heap.size + 1 + 1) 0 #[.int .u32 g.s, .int .u32 g.d, .int .u16 g.p, .int .u16 g.q, .int .u8 g.r] #[.int .u32 g.s, .int .u32 g.d, .int .u16 g.p, .int .u16 g.q, .int .u8 g.r] rfl rfl 28 _ hR.out (Nat.le_of_ble_eq_true rfl) rfl (by kernel_rfl) rfl ?_; intro w3 h3 ho3)
   rw [← HZ.out]
   exact bodyPost_ret (results_blk Tryz.results50 rfl h3 Tryz.underlying28 rfl (by kernel_rfl)) rfl ⟨rfl, hbr.out.trans (ho3.below (by omega))⟩
end Go.Proofs.YtgokmkholjfhbaaGreat.Xb

