/-
  HeaderOfs, out of what the functions of header hand back. Written by tools/mkHdLo.py out of MaskHulls' walk.
-/
import Derived.Test.YtpgadbiohmofeaaHdAw
namespace Go.Proofs.Ytpgadbiohmofeaa
open Go.RowKit
set_option linter.unusedVariables false
set_option linter.unusedSimpArgs false

/-- Numbers of 32 bits. -/
def BdW (l : List Nat) : Prop := ∀ x ∈ l, x < 4294967296
theorem len5 {l : List Nat} (h : l.length = 5) : ∃ a b c d e : Nat, l = [a, b, c, d, e] := by
  match l, h with
  | [a, b, c, d, e], _ => exact ⟨a, b, c, d, e, rfl⟩
theorem ofs_alike (hOn : OfN) (hOf : OfF) (hOc : OfC) (l : List Nat) (hl : l.length ≤ 16777216) (bd : BdW l) : ∃ (y : Hd) (e : Int),
    (∀ v w, SrcW w v l → Calls Try.prog 25 #[v] w fun r w' => r = .returned (.tuple #[.agg #[.int .u32 (y.s : Int), .int .u32 (y.d : Int), .int .u16 (y.p : Int), .int .u16 (y.q : Int), .int .u8 (y.r : Int)], .int .i64 e]) ∧ Below w.heap.size w w')
    ∧ (∀ v w, SrcW w v l → Calls Try.prog 26 #[v] w fun r w' => r = .returned (.tuple #[.agg #[.int .u32 (y.s : Int), .int .u32 (y.d : Int), .int .u16 (y.p : Int), .int .u16 (y.q : Int), .int .u8 (y.r : Int)], .int .i64 e]) ∧ Below w.heap.size w w') := by
  by_cases h5 : l.length = 5
  · obtain ⟨a, b, c, d, e, rfl⟩ := len5 h5
    have ba := bd a (by simp)
    have bb := bd b (by simp)
    have bc := bd c (by simp)
    have bdd := bd d (by simp)
    have be := bd e (by simp)
    by_cases hf : 65535 < c ∨ 65535 < d ∨ 255 < e
    · exact ⟨h0, 61, fun v w h => hOf a b c d e v w h ba bb bc bdd be hf, fun v w h => rOfF a b c d e v w h hf⟩
    · exact ⟨⟨a, b, c, d, e⟩, 0, fun v w h => hOc a b c d e v w h ba bb (by omega) (by omega) (by omega), fun v w h => rOfC a b c d e v w h (by omega) (by omega) (by omega)⟩
  · exact ⟨h0, 1, fun v w h => hOn l v w h h5 hl, fun v w h => rOfN l v w h h5 (by omega)⟩
set_option maxRecDepth 100000 in
set_option maxHeartbeats 4000000 in
theorem headerOfs_core (hOn : OfN) (hOf : OfF) (hOc : OfC) (hA : ∀ w : World, Calls Try.prog 9 #[] w fun e w' => e = .returned (.bool true) ∧ Below w.heap.size w w') (l : List Nat) (lv : Value) (bd : BdW l) (ml : l.length ≤ maxLen) (w : World) (hs : SrcW w lv l) :
    Calls Try.prog 7 #[lv] w fun e w' => e = .returned (.bool true) ∧ Below w.heap.size w w' := by
  have hs2 := hs
  obtain ⟨ad, cap, rfl, hcap, hat⟩ := hs
  by_cases hbig : l.length ≤ 16777216
  · obtain ⟨y, er, hh1, hh2⟩ := ofs_alike hOn hOf hOc l (by omega) bd
    clear hOn hOf hOc
    obtain ⟨i0, hi, hz0, hz1, hz2⟩ := info_parts info_u32
    have hmk : ∀ W : World, (Instr.makeSlice 43 (.int .i64 (l.length : Int)) (.int .i64 ((l.length : Int) + 1))).run Try.prog W = .ok (.slice (some ⟨W.heap.size, 0, none⟩) l.length (l.length + 1)) (W.alloc (.cells (madeCells #[.int .u32 0] (l.length + 1)) 22)) := fun W => by
      have := run_make (P := Try.prog) W 43 22 i0 (.int .u32 0) Try.underlying43 hi hz0 .i64 .i64 (l.length : Int) ((l.length : Int) + 1) (by omega) (by omega) (by rw [hz2]; omega) (by omega)
      have e2 : ((l.length : Int) + 1).toNat = l.length + 1 := by omega
      simpa [hz1, Value.cells, e2] using this
    obtain ⟨w1, hcp, C1, z1, F1, B1, L1⟩ := lentW w l _ hs2 3
    have HC1 : Hid (∀ k (hk : k < l.length), w1.cell? ⟨w.heap.size, k, none⟩ = some (.int .u32 ((l[k]'hk : Nat) : Int))) := C1
    have HB1 : Hid (Below w.heap.size w w1) := B1
    have HS0 : Hid (SrcW w (.slice ad l.length cap) l) := hs2
    have fz := F1 l.length
    clear hi hz0 hz1 hz2 C1 F1 B1 hs2 hat
    obtain ⟨n, hn⟩ : ∃ n, n = l.length := ⟨_, rfl⟩
    have HLn : Hid (n = l.length) := hn
    rw [← hn] at hmk hcp z1 fz hbig ⊢
    have HSn : Hid (SrcW w (.slice ad n cap) l) := by rw [hn]; exact HS0.out
    clear HS0 hn
    have hng : ¬ (16777216 : Int) < ((n : Nat) : Int) := by omega
    have hnd : decide ((16777216 : Int) < ((n : Nat) : Int)) = false := decide_eq_false hng
    have hn0 : (0 : Int) ≤ ((n : Nat) : Int) := by omega
    go_enter Try.func7, Try.ntmps7
    go_wp2_with (fail)
    obtain ⟨w2, hw2⟩ : ∃ w2, w2 = w1.setCell ⟨w.heap.size, n, none⟩ (.int .u32 99) := ⟨_, rfl⟩
    have HC2 : Hid (∀ k (hk : k < l.length), w2.cell? ⟨w.heap.size, k, none⟩ = some (.int .u32 ((l[k]'hk : Nat) : Int))) := fun k hk => by
      have h1 := HC1.out k hk
      have h2 := HLn.out
      have h3 : ¬ k = n := by omega
      have h4 : ¬ n = k := by omega
      rw [hw2]
      simp [go_sem, h1, h3, h4]
    have z2 : w2.cell? ⟨w.heap.size, n, none⟩ = some (.int .u32 99) := by rw [hw2]; simp [go_sem, z1]
    have HB2 : Hid (Below w.heap.size w w2) := by rw [hw2]; exact HB1.out.setCell (Nat.le_refl _) _
    have L2 : w.heap.size < w2.heap.size := World.block_lt_of_cell? _ _ z2
    rw [← hw2]
    clear hw2 HC1 HB1 z1 fz hmk hcp L1
    have hsrc : Hid (∀ W, Below w2.heap.size w2 W → SrcW W (.slice (some ⟨w.heap.size, 0, none⟩) n (n + 1)) l) := fun W hb =>
      ⟨some ⟨w.heap.size, 0, none⟩, n + 1, by rw [HLn.out], by have := HLn.out; omega, fun _ => ⟨w.heap.size, 0, rfl, fun k hk => by rw [Nat.zero_add]; exact cell_on1 hb (HC2.out k hk)⟩⟩
    refine (hh1 _ _ (hsrc.out _ (Below.refl _ _))).mono ?_
    rintro e w3 ⟨rfl, hb3⟩
    have z3 := cell_on1 hb3 z2
    have HB3 : Hid (Below w2.heap.size w2 w3) := hb3
    have hz3 := hb3.size
    clear hb3 hh1 z2 hsrc
    go_wp2_with (fail)
    refine (hh2 _ _ (HSn.out.keep ((HB2.out.trans (HB3.out.mono (by omega))).alloc (by omega) _))).mono ?_
    rintro e w4 ⟨rfl, hb4⟩
    have z4 := cell_on1 hb4 (cell_allocB z3)
    have m0 : w4.cell? ⟨w3.heap.size, 0, none⟩ = some (.int .u32 (y.s : Int)) := cell_on1 hb4 (by simp [go_sem])
    have m1 : w4.cell? ⟨w3.heap.size, 1, none⟩ = some (.int .u32 (y.d : Int)) := cell_on1 hb4 (by simp [go_sem])
    have m2 : w4.cell? ⟨w3.heap.size, 2, none⟩ = some (.int .u16 (y.p : Int)) := cell_on1 hb4 (by simp [go_sem])
    have m3 : w4.cell? ⟨w3.heap.size, 3, none⟩ = some (.int .u16 (y.q : Int)) := cell_on1 hb4 (by simp [go_sem])
    have m4 : w4.cell? ⟨w3.heap.size, 4, none⟩ = some (.int .u8 (y.r : Int)) := cell_on1 hb4 (by simp [go_sem])
    have hz4 := hb4.size
    simp at hz4
    have HB4 : Hid (Below w2.heap.size w2 w4) := (HB3.out.alloc hz3 _).trans (hb4.mono (by simp; omega))
    have l4 : w3.heap.size < w4.heap.size := by omega
    have n4 : ¬ w3.heap.size = w4.heap.size := by omega
    have g4 : ¬ w.heap.size = w4.heap.size := by omega
    have k4 : w.heap.size < w4.heap.size := by omega
    clear hb4 hh2 z3 HB3
    go_wp2_with (fail)
    obtain ⟨W, hW⟩ : ∃ W, W = w4.alloc (.cells #[.int .u32 (y.s : Int), .int .u32 (y.d : Int), .int .u16 (y.p : Int), .int .u16 (y.q : Int), .int .u8 (y.r : Int)] 25) := ⟨_, rfl⟩
    have hb4W : Below w4.heap.size w4 W := by rw [hW]; exact (Below.refl _ _).alloc (Nat.le_refl _) _
    have M0 := cell_on1 hb4W m0
    have M1 := cell_on1 hb4W m1
    have M2 := cell_on1 hb4W m2
    have M3 := cell_on1 hb4W m3
    have M4 := cell_on1 hb4W m4
    have N0 : W.cell? ⟨w4.heap.size, 0, none⟩ = some (.int .u32 (y.s : Int)) := by rw [hW]; simp [go_sem]
    have N1 : W.cell? ⟨w4.heap.size, 1, none⟩ = some (.int .u32 (y.d : Int)) := by rw [hW]; simp [go_sem]
    have N2 : W.cell? ⟨w4.heap.size, 2, none⟩ = some (.int .u16 (y.p : Int)) := by rw [hW]; simp [go_sem]
    have N3 : W.cell? ⟨w4.heap.size, 3, none⟩ = some (.int .u16 (y.q : Int)) := by rw [hW]; simp [go_sem]
    have N4 : W.cell? ⟨w4.heap.size, 4, none⟩ = some (.int .u8 (y.r : Int)) := by rw [hW]; simp [go_sem]
    have HBW : Hid (Below w2.heap.size w2 W) := HB4.out.trans (hb4W.mono (by omega))
    have HCW : Hid (∀ k (hk : k < l.length), W.cell? ⟨w.heap.size, k, none⟩ = some (.int .u32 ((l[k]'hk : Nat) : Int))) := fun k hk => cell_on1 HBW.out (HC2.out k hk)
    have HSW : Hid (SrcW W (.slice ad n cap) l) := HSn.out.keep (HB2.out.trans (HBW.out.mono (by omega)))
    have HWw : Hid (Below w.heap.size w W) := HB2.out.trans (HBW.out.mono (by omega))
    rw [← hW]
    clear hW hb4W m0 m1 m2 m3 m4 z4 HB4 HBW HC2 HB2 HSn hz3 hz4
    go_loopw [9, 10] (fun sv iv wr => ∃ k : Nat, k ≤ n ∧ iv = .int .i64 k ∧ sv = .bool true ∧ Hid (Below W.heap.size W wr)) (fun _ iv _ => n - (intOf iv).toNat)
    case atStart => exact ⟨0, Nat.zero_le _, rfl, rfl, Below.refl _ _⟩
    case round =>
      obtain ⟨k, hk, rfl, rfl, hbw⟩ := hrel
      by_cases hlt : k < n
      · have hlt' : (k : Int) < ((n : Nat) : Int) := by omega
        have hlt2 : (k : Int) < ((n : Nat) : Int) + 1 := by omega
        have hk0 : (0 : Int) ≤ (k : Int) := by omega
        have hkl : k < l.length := by have := HLn.out; omega
        obtain ⟨ad', cap', he, _, hat⟩ := HSW.out.keep hbw.out
        simp only [Value.slice.injEq] at he
        obtain ⟨rfl, _, rfl⟩ := he
        obtain ⟨g, off, rfl, hat2⟩ := hat (by omega)
        have x0 := hat2 k hkl
        have x1 := cell_on1 hbw.out (HCW.out k hkl)
        generalize l[k] = pv at x0 x1
        clear hat hat2 hkl
        go_wp2_with (fail)
        go_quiet (fail)
        go_wp2_with (fail)
        go_roundw
        case rel => exact ⟨k + 1, by omega, by go_num, by first | rfl | simp, by show Below _ _ _; have := hbw.out; (repeat (first | assumption | exact Below.refl _ _ | refine Below.drew ?_ | refine bel_drewN ?_ _ | refine Below.setCell ?_ (by first | omega | (simp; done) | (simp; omega)) _ | refine Below.alloc ?_ (by first | omega | (simp; done) | (simp; omega)) _ | refine bel_of ?_ (by assumption)))⟩
        case measure => simp [intOf]; omega
      · obtain rfl : k = n := by omega
        have a0 := cell_on1 hbw.out M0
        have b0 := cell_on1 hbw.out N0
        have a1 := cell_on1 hbw.out M1
        have b1 := cell_on1 hbw.out N1
        have a2 := cell_on1 hbw.out M2
        have b2 := cell_on1 hbw.out N2
        have a3 := cell_on1 hbw.out M3
        have b3 := cell_on1 hbw.out N3
        have a4 := cell_on1 hbw.out M4
        have b4 := cell_on1 hbw.out N4
        have hbr : Hid (Below w.heap.size w wr) := HWw.out.trans (hbw.out.mono HWw.out.size)
        have hzr := hbr.out.size
        clear M0 M1 M2 M3 M4 N0 N1 N2 N3 N4 hbw HWw HSW HCW
        go_wp2_with (fail)
        refine (hA _).mono ?_
        rintro e w6 ⟨rfl, hb6⟩
        have c0 := cell_on1 hb6 a0
        have d0 := cell_on1 hb6 b0
        have c1 := cell_on1 hb6 a1
        have d1 := cell_on1 hb6 b1
        have c2 := cell_on1 hb6 a2
        have d2 := cell_on1 hb6 b2
        have c3 := cell_on1 hb6 a3
        have d3 := cell_on1 hb6 b3
        have c4 := cell_on1 hb6 a4
        have d4 := cell_on1 hb6 b4
        have hbw6 : Hid (Below w.heap.size w w6) := hbr.out.trans (hb6.mono hzr)
        clear hb6 a0 a1 a2 a3 a4 b0 b1 b2 b3 b4 hbr
        go_wp2_with (fail)
        go_ret
        exact ⟨ret_same (by simp), hbw6.out⟩
  · have hng : (16777216 : Int) < ((l.length : Nat) : Int) := by omega
    have hnd : decide ((16777216 : Int) < ((l.length : Nat) : Int)) = true := decide_eq_true hng
    clear hat hs2
    go_enter Try.func7, Try.ntmps7
    go_wp2_with (fail)
    refine (hA _).mono ?_
    rintro e w1 ⟨rfl, hb1⟩
    have hbw1 : Hid (Below w.heap.size w w1) := by show Below _ _ _; (repeat (first | assumption | exact Below.refl _ _ | refine Below.drew ?_ | refine bel_drewN ?_ _ | refine Below.setCell ?_ (by first | omega | (simp; done) | (simp; omega)) _ | refine Below.alloc ?_ (by first | omega | (simp; done) | (simp; omega)) _ | refine bel_of ?_ (by assumption)))
    clear hb1
    go_wp2_with (fail)
    go_ret
    exact ⟨rfl, hbw1.out⟩
end Go.Proofs.Ytpgadbiohmofeaa
