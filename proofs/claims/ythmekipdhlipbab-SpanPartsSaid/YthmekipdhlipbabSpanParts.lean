/-
  For every two spans and every port, what span.Less leaves of the first and what Meet tells have together as many ports as it, and each port of it is in just one of them; the examples of the document hold.
  Conditions: none; the law holds for every input.
-/
import Derived.Test.YthmekipdhlipbabSpAw
import Derived.Test.YthmekipdhlipbabSpFrame
namespace Go.Proofs.Ythmekipdhlipbab
open Go.ChangeShapes Go.WideShapes Go.ChangeAt Go.RowKit Go.Joins
set_option linter.unusedVariables false
set_option linter.unusedSimpArgs false

def meetB (x y : Nat × Nat) (i : Nat) : Bool := hasB x i && hasB y i
theorem cntS_eq (a b : Nat) (hb : b < 65536) : cntS a b = cnt (hasB (a, b)) 65536 := by
  rw [cnt_has]; unfold cntS; show b + 1 - a = min 65536 (b + 1) - a; omega
/-- What is shared: as many ports, and whether a port is in it. -/
theorem meet_cnt (a b c d : Nat) (hb : b < 65536) (hd : d < 65536) (h : max a c ≤ min b d) : cntS (max a c) (min b d) = cnt (meetB (a, b) (c, d)) 65536 ∧ ∀ i, hasB (max a c, min b d) i = meetB (a, b) (c, d) i := by
  have e : ∀ i, hasB (max a c, min b d) i = meetB (a, b) (c, d) i := fun i => by
    unfold meetB
    rw [Bool.eq_iff_iff, Bool.and_eq_true, hasB_iff, hasB_iff, hasB_iff]
    show max a c ≤ i ∧ i ≤ min b d ↔ (a ≤ i ∧ i ≤ b) ∧ (c ≤ i ∧ i ≤ d)
    omega
  refine ⟨?_, e⟩
  rw [cntS_eq _ _ (by omega)]
  exact cnt_congr _ fun i _ => e i
theorem meet_none (a b c d : Nat) (h : ¬ max a c ≤ min b d) (i : Nat) : meetB (a, b) (c, d) i = false := by
  cases hc : meetB (a, b) (c, d) i with
  | false => rfl
  | true =>
    unfold meetB at hc
    rw [Bool.and_eq_true, hasB_iff, hasB_iff] at hc
    obtain ⟨⟨h1, h2⟩, h3, h4⟩ := hc
    simp only at h1 h2 h3 h4
    omega
theorem cnt_zero {p : Nat → Bool} (h : ∀ i, p i = false) : ∀ n, cnt p n = 0
  | 0 => rfl
  | n + 1 => by unfold cnt; rw [cnt_zero h n, h n]; rfl
theorem parts_total (x y : Nat × Nat) : cnt (meetB x y) 65536 + total (canonOf (lessB x y)) = cnt (hasB x) 65536 := by
  rw [total_canonOf]
  exact cnt_split (hasB x) (hasB y) 65536
theorem parts_hits (x y : Nat × Nat) (p : Nat) (hp : p < 65536) : (if meetB x y p then 1 else 0) + hits (canonOf (lessB x y)) p = if hasB x p then 1 else 0 := by
  rw [hits_canon (canonOf_canon _), canonOf_mem]
  unfold meetB lessB
  cases hasB x p <;> cases hasB y p <;> simp [hp]
theorem total_take {l : List (Nat × Nat)} {k : Nat} (h : k < l.length) : total (l.take (k + 1)) = total (l.take k) + cntS (l[k]).1 (l[k]).2 := by
  rw [take_snoc h, total_append, total_one]; rfl
theorem hits_take {l : List (Nat × Nat)} {k : Nat} (h : k < l.length) (p : Nat) : hits (l.take (k + 1)) p = hits (l.take k) p + if hasB (l[k]) p then 1 else 0 := by
  rw [take_snoc h, hits_append, hits_one]
theorem total_take_le {l : List (Nat × Nat)} {k : Nat} : total (l.take k) ≤ total l := by
  have := total_append (l.take k) (l.drop k)
  rw [List.take_append_drop] at this
  omega
theorem hits_take_le {l : List (Nat × Nat)} {k p : Nat} : hits (l.take k) p ≤ hits l p := by
  have := hits_append (l.take k) (l.drop k) p
  rw [List.take_append_drop] at this
  omega
set_option maxHeartbeats 2000000 in
theorem spanParts_has (a b : Nat) (ha : a < 65536) (hb : b < 65536) (c d : Nat) (hc : c < 65536) (hd : d < 65536) (p : Nat) (hp : p < 65536) (w : World) (h : max a c ≤ min b d) (hpm : meetB (a, b) (c, d) p = true) :
    Calls Try.prog 5 #[.agg #[.int .u16 a, .int .u16 b], .agg #[.int .u16 c, .int .u16 d], .int .u16 p] w fun e w' => e = .returned (.bool true) ∧ Below w.heap.size w w' := by
  have P1 : Hid (_ = _) := parts_total (a, b) (c, d)
  have P2 : Hid (_ = _) := parts_hits (a, b) (c, d) p hp
  have HC : Hid (cntS a b = cnt (hasB (a, b)) 65536) := cntS_eq a b hb
  have hcl : cnt (hasB (a, b)) 65536 ≤ 65536 := cnt_le _ _
  have HK : Hid (Canon 0 (canonOf (lessB (a, b) (c, d)))) := canonOf_canon _
  have hlen := length_canonOf (lessB (a, b) (c, d))
  have hless := fun W => lessS a b c d W ha hb
  have hm := fun W => meet_yes a b c d W h
  obtain ⟨M1, M2⟩ := meet_cnt a b c d hb hd h
  obtain ⟨q, hq'⟩ : ∃ q, q = max a c := ⟨_, rfl⟩
  obtain ⟨r, hr'⟩ : ∃ r, r = min b d := ⟨_, rfl⟩
  have hq : q < 65536 := by omega
  have hr : r < 65536 := by omega
  rw [← hq', ← hr'] at hm M1 M2
  have HM1 : Hid (cntS q r = cnt (meetB (a, b) (c, d)) 65536) := M1
  have HM2 : Hid (meetB (a, b) (c, d) p = true) := hpm
  have hhas := fun W => hasS q r p W
  rw [M2 p, hpm] at hhas
  clear hq' hr' M1 M2 h hpm
  generalize canonOf (lessB (a, b) (c, d)) = L at P1 P2 hless hlen HK
  go_enter Try.func5, Try.ntmps5
  go_wp2_with (fail)
  refine (hless _).mono ?_
  rintro e w1 ⟨vA, rfl, rA, hb1⟩
  have hz1 := hb1.size
  (try simp at hz1)
  have A_1 : Hid (Row w1 w.heap.size vA (L)) := rA.base (by first | omega | (simp; done) | (simp; omega))
  clear rA
  have x0_1 : w1.cell? ⟨w.heap.size, 0, none⟩ = some (.int .u16 (a : Int)) := cell_on hb1 (show ((w.alloc (.cells #[.int .u16 (a : Int), .int .u16 (b : Int)] 31)).alloc (.cells #[.int .u16 (c : Int), .int .u16 (d : Int)] 31)).cell? ⟨w.heap.size, 0, none⟩ = some (.int .u16 (a : Int)) from by simp [go_sem])
  have x1_1 : w1.cell? ⟨w.heap.size, 1, none⟩ = some (.int .u16 (b : Int)) := cell_on hb1 (show ((w.alloc (.cells #[.int .u16 (a : Int), .int .u16 (b : Int)] 31)).alloc (.cells #[.int .u16 (c : Int), .int .u16 (d : Int)] 31)).cell? ⟨w.heap.size, 1, none⟩ = some (.int .u16 (b : Int)) from by simp [go_sem])
  have y0_1 : w1.cell? ⟨w.heap.size + 1, 0, none⟩ = some (.int .u16 (c : Int)) := cell_on hb1 (show ((w.alloc (.cells #[.int .u16 (a : Int), .int .u16 (b : Int)] 31)).alloc (.cells #[.int .u16 (c : Int), .int .u16 (d : Int)] 31)).cell? ⟨w.heap.size + 1, 0, none⟩ = some (.int .u16 (c : Int)) from by simp [go_sem])
  have y1_1 : w1.cell? ⟨w.heap.size + 1, 1, none⟩ = some (.int .u16 (d : Int)) := cell_on hb1 (show ((w.alloc (.cells #[.int .u16 (a : Int), .int .u16 (b : Int)] 31)).alloc (.cells #[.int .u16 (c : Int), .int .u16 (d : Int)] 31)).cell? ⟨w.heap.size + 1, 1, none⟩ = some (.int .u16 (d : Int)) from by simp [go_sem])
  have hg1_0 : w.heap.size < w1.heap.size := by omega
  have hg1_1 : w.heap.size + 1 < w1.heap.size := by omega
  have hl1 : w.heap.size ≤ w1.heap.size := by omega
  have hw1 : Hid (Below w.heap.size w w1) := (((Below.refl _ _).alloc (by first | omega | (simp; done) | (simp; omega)) _).alloc (by first | omega | (simp; done) | (simp; omega)) _).trans (hb1.mono (by first | omega | (simp; done) | (simp; omega)))
  clear hb1
  go_wp2_with (fail)
  refine (hm _).mono ?_
  rintro e w2 ⟨rfl, hb2⟩
  have hz2 := hb2.size
  (try simp at hz2)
  have x0_2 : w2.cell? ⟨w.heap.size, 0, none⟩ = some (.int .u16 (a : Int)) := cell_on hb2 x0_1
  have x1_2 : w2.cell? ⟨w.heap.size, 1, none⟩ = some (.int .u16 (b : Int)) := cell_on hb2 x1_1
  have y0_2 : w2.cell? ⟨w.heap.size + 1, 0, none⟩ = some (.int .u16 (c : Int)) := cell_on hb2 y0_1
  have y1_2 : w2.cell? ⟨w.heap.size + 1, 1, none⟩ = some (.int .u16 (d : Int)) := cell_on hb2 y1_1
  have A_2 : Hid (Row w2 w.heap.size vA (L)) := Row.on A_1.out hb2
  have hg2_0 : w.heap.size < w2.heap.size := by omega
  have hg2_1 : w.heap.size + 1 < w2.heap.size := by omega
  have hl2 : w.heap.size ≤ w2.heap.size := by omega
  have hw2 : Hid (Below w.heap.size w w2) := hw1.out.trans (hb2.mono (by first | omega | (simp; done) | (simp; omega)))
  clear hb2 x0_1 x1_1 y0_1 y1_1 A_1 hg1_0 hg1_1 hw1
  go_wp2_with (fail)
  refine (countS q r _ hq hr).mono ?_
  rintro e w3 ⟨rfl, hb3⟩
  have hz3 := hb3.size
  (try simp at hz3)
  have x0_3 : w3.cell? ⟨w.heap.size, 0, none⟩ = some (.int .u16 (a : Int)) := cell_on hb3 (cell_alloc x0_2)
  have x1_3 : w3.cell? ⟨w.heap.size, 1, none⟩ = some (.int .u16 (b : Int)) := cell_on hb3 (cell_alloc x1_2)
  have y0_3 : w3.cell? ⟨w.heap.size + 1, 0, none⟩ = some (.int .u16 (c : Int)) := cell_on hb3 (cell_alloc y0_2)
  have y1_3 : w3.cell? ⟨w.heap.size + 1, 1, none⟩ = some (.int .u16 (d : Int)) := cell_on hb3 (cell_alloc y1_2)
  have A_3 : Hid (Row w3 w.heap.size vA (L)) := Row.on (Row.alloc A_2.out _) hb3
  have m0_3 : w3.cell? ⟨w2.heap.size, 0, none⟩ = some (.int .u16 (q : Int)) := cell_on hb3 (show (w2.alloc (.cells #[.int .u16 (q : Int), .int .u16 (r : Int)] 31)).cell? ⟨w2.heap.size, 0, none⟩ = some (.int .u16 (q : Int)) from by simp [go_sem])
  have m1_3 : w3.cell? ⟨w2.heap.size, 1, none⟩ = some (.int .u16 (r : Int)) := cell_on hb3 (show (w2.alloc (.cells #[.int .u16 (q : Int), .int .u16 (r : Int)] 31)).cell? ⟨w2.heap.size, 1, none⟩ = some (.int .u16 (r : Int)) from by simp [go_sem])
  have hg3_0 : w.heap.size < w3.heap.size := by omega
  have hg3_1 : w.heap.size + 1 < w3.heap.size := by omega
  have hg3_2 : w2.heap.size < w3.heap.size := by omega
  have hl3 : w.heap.size ≤ w3.heap.size := by omega
  have hw3 : Hid (Below w.heap.size w w3) := (hw2.out.alloc (by first | omega | (simp; done) | (simp; omega)) _).trans (hb3.mono (by first | omega | (simp; done) | (simp; omega)))
  clear hb3 x0_2 x1_2 y0_2 y1_2 A_2 hg2_0 hg2_1 hw2
  go_wp2_with (fail)
  refine (hhas _).mono ?_
  rintro e w4 ⟨rfl, hb4⟩
  have hz4 := hb4.size
  (try simp at hz4)
  have x0_4 : w4.cell? ⟨w.heap.size, 0, none⟩ = some (.int .u16 (a : Int)) := cell_on hb4 x0_3
  have x1_4 : w4.cell? ⟨w.heap.size, 1, none⟩ = some (.int .u16 (b : Int)) := cell_on hb4 x1_3
  have y0_4 : w4.cell? ⟨w.heap.size + 1, 0, none⟩ = some (.int .u16 (c : Int)) := cell_on hb4 y0_3
  have y1_4 : w4.cell? ⟨w.heap.size + 1, 1, none⟩ = some (.int .u16 (d : Int)) := cell_on hb4 y1_3
  have A_4 : Hid (Row w4 w.heap.size vA (L)) := Row.on A_3.out hb4
  have m0_4 : w4.cell? ⟨w2.heap.size, 0, none⟩ = some (.int .u16 (q : Int)) := cell_on hb4 m0_3
  have m1_4 : w4.cell? ⟨w2.heap.size, 1, none⟩ = some (.int .u16 (r : Int)) := cell_on hb4 m1_3
  have hg4_0 : w.heap.size < w4.heap.size := by omega
  have hg4_1 : w.heap.size + 1 < w4.heap.size := by omega
  have hg4_2 : w2.heap.size < w4.heap.size := by omega
  have hl4 : w.heap.size ≤ w4.heap.size := by omega
  have hw4 : Hid (Below w.heap.size w w4) := hw3.out.trans (hb4.mono (by first | omega | (simp; done) | (simp; omega)))
  clear hb4 x0_3 x1_3 y0_3 y1_3 A_3 m0_3 m1_3 hg3_0 hg3_1 hg3_2 hw3
  obtain ⟨lad, lcap, hlv, hlcap, hlat⟩ := A_4.out.form
  subst hlv
  have hT : cntS q r + total L = cntS a b := by rw [HC.out, ← P1.out, HM1.out]
  have hH : 1 + hits L p = (if hasB (a, b) p then 1 else 0) := by have := P2.out; rw [HM2.out] at this; simpa using this
  have HT : Hid (cntS q r + total L = cntS a b) := hT
  have HH : Hid (1 + hits L p = (if hasB (a, b) p then 1 else 0)) := hH
  have hcs : cntS a b ≤ 65536 := by rw [HC.out]; exact hcl
  have hin1 : (if hasB (a, b) p then 1 else 0) ≤ 1 := by split <;> omega
  have hTb : cntS q r + total L ≤ 65536 := by omega
  have hHb : 1 + hits L p ≤ 1 := by omega
  clear hT hH P1 P2 HC hcl HM1 HM2 hm hless
  go_wp2_with (fail)
  go_loopw [10, 11, 12] (fun nv cv iv wr => ∃ k : Nat, k ≤ L.length ∧ iv = .int .i64 k ∧ nv = .int .i64 ((cntS q r + total (L.take k) : Nat) : Int) ∧ cv = .int .i64 ((1 + hits (L.take k) p : Nat) : Int) ∧ Hid (Below w4.heap.size w4 wr)) (fun _ _ iv _ => L.length - (intOf iv).toNat)
  case atStart => exact ⟨0, Nat.zero_le _, rfl, by simp [total_nil], by simp [hits_nil], by first | exact Below.refl _ _ | exact (Below.refl _ _).alloc (Nat.le_refl _) _⟩
  case round =>
    obtain ⟨k, hk, rfl, rfl, rfl, hbl⟩ := hrel
    have ht1 : total (L.take k) ≤ total L := total_take_le
    have ht2 : hits (L.take k) p ≤ hits L p := hits_take_le
    by_cases hlt : k < L.length
    · obtain ⟨g, rfl, hgb, hgl, hcell⟩ := hlat (by omega)
      obtain ⟨s, hs⟩ : ∃ s, s = L[k] := ⟨_, rfl⟩
      obtain ⟨x0, x1⟩ := hcell k hlt
      rw [← hs] at x0 x1
      have y0 := (hbl.out.cell (World.block_lt_of_cell? _ _ x0)).trans x0
      have y1 := (hbl.out.cell (World.block_lt_of_cell? _ _ x1)).trans x1
      have hse := HK.out.each s (by rw [hs]; exact List.getElem_mem _)
      have e1 : total (L.take (k + 1)) = total (L.take k) + cntS s.1 s.2 := by rw [hs]; exact total_take hlt
      have e2 : hits (L.take (k + 1)) p = hits (L.take k) p + if hasB s p then 1 else 0 := by rw [hs]; exact hits_take hlt p
      have ht3 : total (L.take (k + 1)) ≤ total L := total_take_le
      have ht4 : hits (L.take (k + 1)) p ≤ hits L p := hits_take_le
      have hcn : cntS s.1 s.2 ≤ 65536 := by omega
      have E1 : Hid (total (L.take (k + 1)) = total (L.take k) + cntS s.1 s.2) := e1
      have E2 : Hid (hits (L.take (k + 1)) p = hits (L.take k) p + if hasB s p then 1 else 0) := e2
      generalize hN : total (L.take k) = N at *
      generalize hI : hits (L.take k) p = I at *
      clear hlat hcell x0 x1 hs e1 e2 hN hI
      go_wp2_with (fail)
      refine (countS s.1 s.2 _ (by omega) (by omega)).mono ?_
      rintro e w5 ⟨rfl, hb5⟩
      have z0 := cell_on hb5 y0
      have z1 := cell_on hb5 y1
      have hb5' : Hid (Below w4.heap.size w4 w5) := hbl.out.trans (hb5.mono hbl.out.size)
      generalize hcnt : cntS s.1 s.2 = cn at *
      go_wp2_with (fail)
      refine (hasS s.1 s.2 p _).mono ?_
      rintro e w6 ⟨rfl, hb6⟩
      have hb6' : Hid (Below w4.heap.size w4 w6) := hb5'.out.trans (hb6.mono hb5'.out.size)
      clear z0 z1 hb5 hb6 hb5' y0 y1
      by_cases hh : hasB (s.1, s.2) p = true
      · rw [hh]
        have E3 : Hid (hits (L.take (k + 1)) p = I + 1) := by show _ = _; rw [E2.out, if_pos hh]
        go_wp2
        go_roundw
        case rel => exact ⟨k + 1, by omega, by go_num, by rw [E1.out]; go_num, by rw [E3.out]; go_num, hb6'⟩
        case measure => simp [intOf]; omega
      · rw [show hasB (s.1, s.2) p = false by simpa using hh]
        have E3 : Hid (hits (L.take (k + 1)) p = I) := by show _ = _; rw [E2.out, if_neg hh]; rfl
        go_wp2
        go_roundw
        case rel => exact ⟨k + 1, by omega, by go_num, by rw [E1.out]; go_num, by rw [E3.out]; go_num, hb6'⟩
        case measure => simp [intOf]; omega
    · obtain rfl : k = L.length := by omega
      have hN : cntS q r + total (L.take L.length) = cntS a b := by rw [List.take_length]; exact HT.out
      have hI : 1 + hits (L.take L.length) p = (if hasB (a, b) p then 1 else 0) := by rw [List.take_length]; exact HH.out
      rw [hN, hI]
      have x0 := cell_on hbl.out x0_4
      have x1 := cell_on hbl.out x1_4
      have hbw : Hid (Below w.heap.size w wr) := hw4.out.trans (hbl.out.mono hl4)
      clear hN hI HT HH ht1 ht2 hbl hTb hHb hin1 hlat
      have hcc := fun W => countS a b W ha hb
      have hhh := fun W => hasS a b p W
      generalize cntS a b = cn at hcc hcs ⊢
      by_cases hh : hasB (a, b) p = true
      · rw [hh] at hhh
        rw [if_pos hh]
        clear hh
        go_wp2_with (fail)
        refine (awakeS _).mono ?_
        rintro e w7 ⟨rfl, hb7⟩
        have z0 := cell_on hb7 x0
        have z1 := cell_on hb7 x1
        go_wp2_with (fail)
        refine (hcc _).mono ?_
        rintro e w8 ⟨rfl, hb8⟩
        have u0 := cell_on hb8 z0
        have u1 := cell_on hb8 z1
        go_wp2_with (fail)
        refine (hhh _).mono ?_
        rintro e w9 ⟨rfl, hb9⟩
        go_wp2
        go_ret
        exact ⟨rfl, ((hbw.out.trans (hb7.mono hbw.out.size)).trans (hb8.mono (Nat.le_trans hbw.out.size hb7.size))).trans (hb9.mono (Nat.le_trans (Nat.le_trans hbw.out.size hb7.size) hb8.size))⟩
      · rw [show hasB (a, b) p = false by simpa using hh] at hhh
        rw [if_neg hh]
        clear hh
        go_wp2_with (fail)
        refine (awakeS _).mono ?_
        rintro e w7 ⟨rfl, hb7⟩
        have z0 := cell_on hb7 x0
        have z1 := cell_on hb7 x1
        go_wp2_with (fail)
        refine (hcc _).mono ?_
        rintro e w8 ⟨rfl, hb8⟩
        have u0 := cell_on hb8 z0
        have u1 := cell_on hb8 z1
        go_wp2_with (fail)
        refine (hhh _).mono ?_
        rintro e w9 ⟨rfl, hb9⟩
        go_wp2
        go_ret
        exact ⟨rfl, ((hbw.out.trans (hb7.mono hbw.out.size)).trans (hb8.mono (Nat.le_trans hbw.out.size hb7.size))).trans (hb9.mono (Nat.le_trans (Nat.le_trans hbw.out.size hb7.size) hb8.size))⟩
set_option maxHeartbeats 2000000 in
theorem spanParts_not (a b : Nat) (ha : a < 65536) (hb : b < 65536) (c d : Nat) (hc : c < 65536) (hd : d < 65536) (p : Nat) (hp : p < 65536) (w : World) (h : max a c ≤ min b d) (hpm : meetB (a, b) (c, d) p = false) :
    Calls Try.prog 5 #[.agg #[.int .u16 a, .int .u16 b], .agg #[.int .u16 c, .int .u16 d], .int .u16 p] w fun e w' => e = .returned (.bool true) ∧ Below w.heap.size w w' := by
  have P1 : Hid (_ = _) := parts_total (a, b) (c, d)
  have P2 : Hid (_ = _) := parts_hits (a, b) (c, d) p hp
  have HC : Hid (cntS a b = cnt (hasB (a, b)) 65536) := cntS_eq a b hb
  have hcl : cnt (hasB (a, b)) 65536 ≤ 65536 := cnt_le _ _
  have HK : Hid (Canon 0 (canonOf (lessB (a, b) (c, d)))) := canonOf_canon _
  have hlen := length_canonOf (lessB (a, b) (c, d))
  have hless := fun W => lessS a b c d W ha hb
  have hm := fun W => meet_yes a b c d W h
  obtain ⟨M1, M2⟩ := meet_cnt a b c d hb hd h
  obtain ⟨q, hq'⟩ : ∃ q, q = max a c := ⟨_, rfl⟩
  obtain ⟨r, hr'⟩ : ∃ r, r = min b d := ⟨_, rfl⟩
  have hq : q < 65536 := by omega
  have hr : r < 65536 := by omega
  rw [← hq', ← hr'] at hm M1 M2
  have HM1 : Hid (cntS q r = cnt (meetB (a, b) (c, d)) 65536) := M1
  have HM2 : Hid (meetB (a, b) (c, d) p = false) := hpm
  have hhas := fun W => hasS q r p W
  rw [M2 p, hpm] at hhas
  clear hq' hr' M1 M2 h hpm
  generalize canonOf (lessB (a, b) (c, d)) = L at P1 P2 hless hlen HK
  go_enter Try.func5, Try.ntmps5
  go_wp2_with (fail)
  refine (hless _).mono ?_
  rintro e w1 ⟨vA, rfl, rA, hb1⟩
  have hz1 := hb1.size
  (try simp at hz1)
  have A_1 : Hid (Row w1 w.heap.size vA (L)) := rA.base (by first | omega | (simp; done) | (simp; omega))
  clear rA
  have x0_1 : w1.cell? ⟨w.heap.size, 0, none⟩ = some (.int .u16 (a : Int)) := cell_on hb1 (show ((w.alloc (.cells #[.int .u16 (a : Int), .int .u16 (b : Int)] 31)).alloc (.cells #[.int .u16 (c : Int), .int .u16 (d : Int)] 31)).cell? ⟨w.heap.size, 0, none⟩ = some (.int .u16 (a : Int)) from by simp [go_sem])
  have x1_1 : w1.cell? ⟨w.heap.size, 1, none⟩ = some (.int .u16 (b : Int)) := cell_on hb1 (show ((w.alloc (.cells #[.int .u16 (a : Int), .int .u16 (b : Int)] 31)).alloc (.cells #[.int .u16 (c : Int), .int .u16 (d : Int)] 31)).cell? ⟨w.heap.size, 1, none⟩ = some (.int .u16 (b : Int)) from by simp [go_sem])
  have y0_1 : w1.cell? ⟨w.heap.size + 1, 0, none⟩ = some (.int .u16 (c : Int)) := cell_on hb1 (show ((w.alloc (.cells #[.int .u16 (a : Int), .int .u16 (b : Int)] 31)).alloc (.cells #[.int .u16 (c : Int), .int .u16 (d : Int)] 31)).cell? ⟨w.heap.size + 1, 0, none⟩ = some (.int .u16 (c : Int)) from by simp [go_sem])
  have y1_1 : w1.cell? ⟨w.heap.size + 1, 1, none⟩ = some (.int .u16 (d : Int)) := cell_on hb1 (show ((w.alloc (.cells #[.int .u16 (a : Int), .int .u16 (b : Int)] 31)).alloc (.cells #[.int .u16 (c : Int), .int .u16 (d : Int)] 31)).cell? ⟨w.heap.size + 1, 1, none⟩ = some (.int .u16 (d : Int)) from by simp [go_sem])
  have hg1_0 : w.heap.size < w1.heap.size := by omega
  have hg1_1 : w.heap.size + 1 < w1.heap.size := by omega
  have hl1 : w.heap.size ≤ w1.heap.size := by omega
  have hw1 : Hid (Below w.heap.size w w1) := (((Below.refl _ _).alloc (by first | omega | (simp; done) | (simp; omega)) _).alloc (by first | omega | (simp; done) | (simp; omega)) _).trans (hb1.mono (by first | omega | (simp; done) | (simp; omega)))
  clear hb1
  go_wp2_with (fail)
  refine (hm _).mono ?_
  rintro e w2 ⟨rfl, hb2⟩
  have hz2 := hb2.size
  (try simp at hz2)
  have x0_2 : w2.cell? ⟨w.heap.size, 0, none⟩ = some (.int .u16 (a : Int)) := cell_on hb2 x0_1
  have x1_2 : w2.cell? ⟨w.heap.size, 1, none⟩ = some (.int .u16 (b : Int)) := cell_on hb2 x1_1
  have y0_2 : w2.cell? ⟨w.heap.size + 1, 0, none⟩ = some (.int .u16 (c : Int)) := cell_on hb2 y0_1
  have y1_2 : w2.cell? ⟨w.heap.size + 1, 1, none⟩ = some (.int .u16 (d : Int)) := cell_on hb2 y1_1
  have A_2 : Hid (Row w2 w.heap.size vA (L)) := Row.on A_1.out hb2
  have hg2_0 : w.heap.size < w2.heap.size := by omega
  have hg2_1 : w.heap.size + 1 < w2.heap.size := by omega
  have hl2 : w.heap.size ≤ w2.heap.size := by omega
  have hw2 : Hid (Below w.heap.size w w2) := hw1.out.trans (hb2.mono (by first | omega | (simp; done) | (simp; omega)))
  clear hb2 x0_1 x1_1 y0_1 y1_1 A_1 hg1_0 hg1_1 hw1
  go_wp2_with (fail)
  refine (countS q r _ hq hr).mono ?_
  rintro e w3 ⟨rfl, hb3⟩
  have hz3 := hb3.size
  (try simp at hz3)
  have x0_3 : w3.cell? ⟨w.heap.size, 0, none⟩ = some (.int .u16 (a : Int)) := cell_on hb3 (cell_alloc x0_2)
  have x1_3 : w3.cell? ⟨w.heap.size, 1, none⟩ = some (.int .u16 (b : Int)) := cell_on hb3 (cell_alloc x1_2)
  have y0_3 : w3.cell? ⟨w.heap.size + 1, 0, none⟩ = some (.int .u16 (c : Int)) := cell_on hb3 (cell_alloc y0_2)
  have y1_3 : w3.cell? ⟨w.heap.size + 1, 1, none⟩ = some (.int .u16 (d : Int)) := cell_on hb3 (cell_alloc y1_2)
  have A_3 : Hid (Row w3 w.heap.size vA (L)) := Row.on (Row.alloc A_2.out _) hb3
  have m0_3 : w3.cell? ⟨w2.heap.size, 0, none⟩ = some (.int .u16 (q : Int)) := cell_on hb3 (show (w2.alloc (.cells #[.int .u16 (q : Int), .int .u16 (r : Int)] 31)).cell? ⟨w2.heap.size, 0, none⟩ = some (.int .u16 (q : Int)) from by simp [go_sem])
  have m1_3 : w3.cell? ⟨w2.heap.size, 1, none⟩ = some (.int .u16 (r : Int)) := cell_on hb3 (show (w2.alloc (.cells #[.int .u16 (q : Int), .int .u16 (r : Int)] 31)).cell? ⟨w2.heap.size, 1, none⟩ = some (.int .u16 (r : Int)) from by simp [go_sem])
  have hg3_0 : w.heap.size < w3.heap.size := by omega
  have hg3_1 : w.heap.size + 1 < w3.heap.size := by omega
  have hg3_2 : w2.heap.size < w3.heap.size := by omega
  have hl3 : w.heap.size ≤ w3.heap.size := by omega
  have hw3 : Hid (Below w.heap.size w w3) := (hw2.out.alloc (by first | omega | (simp; done) | (simp; omega)) _).trans (hb3.mono (by first | omega | (simp; done) | (simp; omega)))
  clear hb3 x0_2 x1_2 y0_2 y1_2 A_2 hg2_0 hg2_1 hw2
  go_wp2_with (fail)
  refine (hhas _).mono ?_
  rintro e w4 ⟨rfl, hb4⟩
  have hz4 := hb4.size
  (try simp at hz4)
  have x0_4 : w4.cell? ⟨w.heap.size, 0, none⟩ = some (.int .u16 (a : Int)) := cell_on hb4 x0_3
  have x1_4 : w4.cell? ⟨w.heap.size, 1, none⟩ = some (.int .u16 (b : Int)) := cell_on hb4 x1_3
  have y0_4 : w4.cell? ⟨w.heap.size + 1, 0, none⟩ = some (.int .u16 (c : Int)) := cell_on hb4 y0_3
  have y1_4 : w4.cell? ⟨w.heap.size + 1, 1, none⟩ = some (.int .u16 (d : Int)) := cell_on hb4 y1_3
  have A_4 : Hid (Row w4 w.heap.size vA (L)) := Row.on A_3.out hb4
  have m0_4 : w4.cell? ⟨w2.heap.size, 0, none⟩ = some (.int .u16 (q : Int)) := cell_on hb4 m0_3
  have m1_4 : w4.cell? ⟨w2.heap.size, 1, none⟩ = some (.int .u16 (r : Int)) := cell_on hb4 m1_3
  have hg4_0 : w.heap.size < w4.heap.size := by omega
  have hg4_1 : w.heap.size + 1 < w4.heap.size := by omega
  have hg4_2 : w2.heap.size < w4.heap.size := by omega
  have hl4 : w.heap.size ≤ w4.heap.size := by omega
  have hw4 : Hid (Below w.heap.size w w4) := hw3.out.trans (hb4.mono (by first | omega | (simp; done) | (simp; omega)))
  clear hb4 x0_3 x1_3 y0_3 y1_3 A_3 m0_3 m1_3 hg3_0 hg3_1 hg3_2 hw3
  obtain ⟨lad, lcap, hlv, hlcap, hlat⟩ := A_4.out.form
  subst hlv
  have hT : cntS q r + total L = cntS a b := by rw [HC.out, ← P1.out, HM1.out]
  have hH : 0 + hits L p = (if hasB (a, b) p then 1 else 0) := by have := P2.out; rw [HM2.out] at this; simpa using this
  have HT : Hid (cntS q r + total L = cntS a b) := hT
  have HH : Hid (0 + hits L p = (if hasB (a, b) p then 1 else 0)) := hH
  have hcs : cntS a b ≤ 65536 := by rw [HC.out]; exact hcl
  have hin1 : (if hasB (a, b) p then 1 else 0) ≤ 1 := by split <;> omega
  have hTb : cntS q r + total L ≤ 65536 := by omega
  have hHb : 0 + hits L p ≤ 1 := by omega
  clear hT hH P1 P2 HC hcl HM1 HM2 hm hless
  go_wp2_with (fail)
  go_loopw [10, 11, 12] (fun nv cv iv wr => ∃ k : Nat, k ≤ L.length ∧ iv = .int .i64 k ∧ nv = .int .i64 ((cntS q r + total (L.take k) : Nat) : Int) ∧ cv = .int .i64 ((0 + hits (L.take k) p : Nat) : Int) ∧ Hid (Below w4.heap.size w4 wr)) (fun _ _ iv _ => L.length - (intOf iv).toNat)
  case atStart => exact ⟨0, Nat.zero_le _, rfl, by simp [total_nil], by simp [hits_nil], by first | exact Below.refl _ _ | exact (Below.refl _ _).alloc (Nat.le_refl _) _⟩
  case round =>
    obtain ⟨k, hk, rfl, rfl, rfl, hbl⟩ := hrel
    have ht1 : total (L.take k) ≤ total L := total_take_le
    have ht2 : hits (L.take k) p ≤ hits L p := hits_take_le
    by_cases hlt : k < L.length
    · obtain ⟨g, rfl, hgb, hgl, hcell⟩ := hlat (by omega)
      obtain ⟨s, hs⟩ : ∃ s, s = L[k] := ⟨_, rfl⟩
      obtain ⟨x0, x1⟩ := hcell k hlt
      rw [← hs] at x0 x1
      have y0 := (hbl.out.cell (World.block_lt_of_cell? _ _ x0)).trans x0
      have y1 := (hbl.out.cell (World.block_lt_of_cell? _ _ x1)).trans x1
      have hse := HK.out.each s (by rw [hs]; exact List.getElem_mem _)
      have e1 : total (L.take (k + 1)) = total (L.take k) + cntS s.1 s.2 := by rw [hs]; exact total_take hlt
      have e2 : hits (L.take (k + 1)) p = hits (L.take k) p + if hasB s p then 1 else 0 := by rw [hs]; exact hits_take hlt p
      have ht3 : total (L.take (k + 1)) ≤ total L := total_take_le
      have ht4 : hits (L.take (k + 1)) p ≤ hits L p := hits_take_le
      have hcn : cntS s.1 s.2 ≤ 65536 := by omega
      have E1 : Hid (total (L.take (k + 1)) = total (L.take k) + cntS s.1 s.2) := e1
      have E2 : Hid (hits (L.take (k + 1)) p = hits (L.take k) p + if hasB s p then 1 else 0) := e2
      generalize hN : total (L.take k) = N at *
      generalize hI : hits (L.take k) p = I at *
      clear hlat hcell x0 x1 hs e1 e2 hN hI
      go_wp2_with (fail)
      refine (countS s.1 s.2 _ (by omega) (by omega)).mono ?_
      rintro e w5 ⟨rfl, hb5⟩
      have z0 := cell_on hb5 y0
      have z1 := cell_on hb5 y1
      have hb5' : Hid (Below w4.heap.size w4 w5) := hbl.out.trans (hb5.mono hbl.out.size)
      generalize hcnt : cntS s.1 s.2 = cn at *
      go_wp2_with (fail)
      refine (hasS s.1 s.2 p _).mono ?_
      rintro e w6 ⟨rfl, hb6⟩
      have hb6' : Hid (Below w4.heap.size w4 w6) := hb5'.out.trans (hb6.mono hb5'.out.size)
      clear z0 z1 hb5 hb6 hb5' y0 y1
      by_cases hh : hasB (s.1, s.2) p = true
      · rw [hh]
        have E3 : Hid (hits (L.take (k + 1)) p = I + 1) := by show _ = _; rw [E2.out, if_pos hh]
        go_wp2
        go_roundw
        case rel => exact ⟨k + 1, by omega, by go_num, by rw [E1.out]; go_num, by rw [E3.out]; go_num, hb6'⟩
        case measure => simp [intOf]; omega
      · rw [show hasB (s.1, s.2) p = false by simpa using hh]
        have E3 : Hid (hits (L.take (k + 1)) p = I) := by show _ = _; rw [E2.out, if_neg hh]; rfl
        go_wp2
        go_roundw
        case rel => exact ⟨k + 1, by omega, by go_num, by rw [E1.out]; go_num, by rw [E3.out]; go_num, hb6'⟩
        case measure => simp [intOf]; omega
    · obtain rfl : k = L.length := by omega
      have hN : cntS q r + total (L.take L.length) = cntS a b := by rw [List.take_length]; exact HT.out
      have hI : 0 + hits (L.take L.length) p = (if hasB (a, b) p then 1 else 0) := by rw [List.take_length]; exact HH.out
      rw [hN, hI]
      have x0 := cell_on hbl.out x0_4
      have x1 := cell_on hbl.out x1_4
      have hbw : Hid (Below w.heap.size w wr) := hw4.out.trans (hbl.out.mono hl4)
      clear hN hI HT HH ht1 ht2 hbl hTb hHb hin1 hlat
      have hcc := fun W => countS a b W ha hb
      have hhh := fun W => hasS a b p W
      generalize cntS a b = cn at hcc hcs ⊢
      by_cases hh : hasB (a, b) p = true
      · rw [hh] at hhh
        rw [if_pos hh]
        clear hh
        go_wp2_with (fail)
        refine (awakeS _).mono ?_
        rintro e w7 ⟨rfl, hb7⟩
        have z0 := cell_on hb7 x0
        have z1 := cell_on hb7 x1
        go_wp2_with (fail)
        refine (hcc _).mono ?_
        rintro e w8 ⟨rfl, hb8⟩
        have u0 := cell_on hb8 z0
        have u1 := cell_on hb8 z1
        go_wp2_with (fail)
        refine (hhh _).mono ?_
        rintro e w9 ⟨rfl, hb9⟩
        go_wp2
        go_ret
        exact ⟨rfl, ((hbw.out.trans (hb7.mono hbw.out.size)).trans (hb8.mono (Nat.le_trans hbw.out.size hb7.size))).trans (hb9.mono (Nat.le_trans (Nat.le_trans hbw.out.size hb7.size) hb8.size))⟩
      · rw [show hasB (a, b) p = false by simpa using hh] at hhh
        rw [if_neg hh]
        clear hh
        go_wp2_with (fail)
        refine (awakeS _).mono ?_
        rintro e w7 ⟨rfl, hb7⟩
        have z0 := cell_on hb7 x0
        have z1 := cell_on hb7 x1
        go_wp2_with (fail)
        refine (hcc _).mono ?_
        rintro e w8 ⟨rfl, hb8⟩
        have u0 := cell_on hb8 z0
        have u1 := cell_on hb8 z1
        go_wp2_with (fail)
        refine (hhh _).mono ?_
        rintro e w9 ⟨rfl, hb9⟩
        go_wp2
        go_ret
        exact ⟨rfl, ((hbw.out.trans (hb7.mono hbw.out.size)).trans (hb8.mono (Nat.le_trans hbw.out.size hb7.size))).trans (hb9.mono (Nat.le_trans (Nat.le_trans hbw.out.size hb7.size) hb8.size))⟩
set_option maxHeartbeats 2000000 in
theorem spanParts_no (a b : Nat) (ha : a < 65536) (hb : b < 65536) (c d : Nat) (hc : c < 65536) (hd : d < 65536) (p : Nat) (hp : p < 65536) (w : World) (h : ¬ max a c ≤ min b d) :
    Calls Try.prog 5 #[.agg #[.int .u16 a, .int .u16 b], .agg #[.int .u16 c, .int .u16 d], .int .u16 p] w fun e w' => e = .returned (.bool true) ∧ Below w.heap.size w w' := by
  have P1 : Hid (_ = _) := parts_total (a, b) (c, d)
  have P2 : Hid (_ = _) := parts_hits (a, b) (c, d) p hp
  have HC : Hid (cntS a b = cnt (hasB (a, b)) 65536) := cntS_eq a b hb
  have hcl : cnt (hasB (a, b)) 65536 ≤ 65536 := cnt_le _ _
  have HK : Hid (Canon 0 (canonOf (lessB (a, b) (c, d)))) := canonOf_canon _
  have hlen := length_canonOf (lessB (a, b) (c, d))
  have hless := fun W => lessS a b c d W ha hb
  have hm := fun W => meet_no a b c d W h
  have HM1 : Hid (cnt (meetB (a, b) (c, d)) 65536 = 0) := cnt_zero (meet_none a b c d h) _
  have HM2 : Hid (meetB (a, b) (c, d) p = false) := meet_none a b c d h p
  clear h
  generalize canonOf (lessB (a, b) (c, d)) = L at P1 P2 hless hlen HK
  go_enter Try.func5, Try.ntmps5
  go_wp2_with (fail)
  refine (hless _).mono ?_
  rintro e w1 ⟨vA, rfl, rA, hb1⟩
  have hz1 := hb1.size
  (try simp at hz1)
  have A_1 : Hid (Row w1 w.heap.size vA (L)) := rA.base (by first | omega | (simp; done) | (simp; omega))
  clear rA
  have x0_1 : w1.cell? ⟨w.heap.size, 0, none⟩ = some (.int .u16 (a : Int)) := cell_on hb1 (show ((w.alloc (.cells #[.int .u16 (a : Int), .int .u16 (b : Int)] 31)).alloc (.cells #[.int .u16 (c : Int), .int .u16 (d : Int)] 31)).cell? ⟨w.heap.size, 0, none⟩ = some (.int .u16 (a : Int)) from by simp [go_sem])
  have x1_1 : w1.cell? ⟨w.heap.size, 1, none⟩ = some (.int .u16 (b : Int)) := cell_on hb1 (show ((w.alloc (.cells #[.int .u16 (a : Int), .int .u16 (b : Int)] 31)).alloc (.cells #[.int .u16 (c : Int), .int .u16 (d : Int)] 31)).cell? ⟨w.heap.size, 1, none⟩ = some (.int .u16 (b : Int)) from by simp [go_sem])
  have y0_1 : w1.cell? ⟨w.heap.size + 1, 0, none⟩ = some (.int .u16 (c : Int)) := cell_on hb1 (show ((w.alloc (.cells #[.int .u16 (a : Int), .int .u16 (b : Int)] 31)).alloc (.cells #[.int .u16 (c : Int), .int .u16 (d : Int)] 31)).cell? ⟨w.heap.size + 1, 0, none⟩ = some (.int .u16 (c : Int)) from by simp [go_sem])
  have y1_1 : w1.cell? ⟨w.heap.size + 1, 1, none⟩ = some (.int .u16 (d : Int)) := cell_on hb1 (show ((w.alloc (.cells #[.int .u16 (a : Int), .int .u16 (b : Int)] 31)).alloc (.cells #[.int .u16 (c : Int), .int .u16 (d : Int)] 31)).cell? ⟨w.heap.size + 1, 1, none⟩ = some (.int .u16 (d : Int)) from by simp [go_sem])
  have hg1_0 : w.heap.size < w1.heap.size := by omega
  have hg1_1 : w.heap.size + 1 < w1.heap.size := by omega
  have hl1 : w.heap.size ≤ w1.heap.size := by omega
  have hw1 : Hid (Below w.heap.size w w1) := (((Below.refl _ _).alloc (by first | omega | (simp; done) | (simp; omega)) _).alloc (by first | omega | (simp; done) | (simp; omega)) _).trans (hb1.mono (by first | omega | (simp; done) | (simp; omega)))
  clear hb1
  go_wp2_with (fail)
  refine (hm _).mono ?_
  rintro e w2 ⟨rfl, hb2⟩
  have hz2 := hb2.size
  (try simp at hz2)
  have x0_2 : w2.cell? ⟨w.heap.size, 0, none⟩ = some (.int .u16 (a : Int)) := cell_on hb2 x0_1
  have x1_2 : w2.cell? ⟨w.heap.size, 1, none⟩ = some (.int .u16 (b : Int)) := cell_on hb2 x1_1
  have y0_2 : w2.cell? ⟨w.heap.size + 1, 0, none⟩ = some (.int .u16 (c : Int)) := cell_on hb2 y0_1
  have y1_2 : w2.cell? ⟨w.heap.size + 1, 1, none⟩ = some (.int .u16 (d : Int)) := cell_on hb2 y1_1
  have A_2 : Hid (Row w2 w.heap.size vA (L)) := Row.on A_1.out hb2
  have hg2_0 : w.heap.size < w2.heap.size := by omega
  have hg2_1 : w.heap.size + 1 < w2.heap.size := by omega
  have hl2 : w.heap.size ≤ w2.heap.size := by omega
  have hw2 : Hid (Below w.heap.size w w2) := hw1.out.trans (hb2.mono (by first | omega | (simp; done) | (simp; omega)))
  clear hb2 x0_1 x1_1 y0_1 y1_1 A_1 hg1_0 hg1_1 hw1
  obtain ⟨lad, lcap, hlv, hlcap, hlat⟩ := A_2.out.form
  subst hlv
  have hT : 0 + total L = cntS a b := by rw [HC.out, ← P1.out, HM1.out]
  have hH : 0 + hits L p = (if hasB (a, b) p then 1 else 0) := by have := P2.out; rw [HM2.out] at this; simpa using this
  have HT : Hid (0 + total L = cntS a b) := hT
  have HH : Hid (0 + hits L p = (if hasB (a, b) p then 1 else 0)) := hH
  have hcs : cntS a b ≤ 65536 := by rw [HC.out]; exact hcl
  have hin1 : (if hasB (a, b) p then 1 else 0) ≤ 1 := by split <;> omega
  have hTb : 0 + total L ≤ 65536 := by omega
  have hHb : 0 + hits L p ≤ 1 := by omega
  clear hT hH P1 P2 HC hcl HM1 HM2 hm hless
  go_wp2_with (fail)
  go_loopw [10, 11, 12] (fun nv cv iv wr => ∃ k : Nat, k ≤ L.length ∧ iv = .int .i64 k ∧ nv = .int .i64 ((0 + total (L.take k) : Nat) : Int) ∧ cv = .int .i64 ((0 + hits (L.take k) p : Nat) : Int) ∧ Hid (Below w2.heap.size w2 wr)) (fun _ _ iv _ => L.length - (intOf iv).toNat)
  case atStart => exact ⟨0, Nat.zero_le _, rfl, by simp [total_nil], by simp [hits_nil], by first | exact Below.refl _ _ | exact (Below.refl _ _).alloc (Nat.le_refl _) _⟩
  case round =>
    obtain ⟨k, hk, rfl, rfl, rfl, hbl⟩ := hrel
    have ht1 : total (L.take k) ≤ total L := total_take_le
    have ht2 : hits (L.take k) p ≤ hits L p := hits_take_le
    by_cases hlt : k < L.length
    · obtain ⟨g, rfl, hgb, hgl, hcell⟩ := hlat (by omega)
      obtain ⟨s, hs⟩ : ∃ s, s = L[k] := ⟨_, rfl⟩
      obtain ⟨x0, x1⟩ := hcell k hlt
      rw [← hs] at x0 x1
      have y0 := (hbl.out.cell (World.block_lt_of_cell? _ _ x0)).trans x0
      have y1 := (hbl.out.cell (World.block_lt_of_cell? _ _ x1)).trans x1
      have hse := HK.out.each s (by rw [hs]; exact List.getElem_mem _)
      have e1 : total (L.take (k + 1)) = total (L.take k) + cntS s.1 s.2 := by rw [hs]; exact total_take hlt
      have e2 : hits (L.take (k + 1)) p = hits (L.take k) p + if hasB s p then 1 else 0 := by rw [hs]; exact hits_take hlt p
      have ht3 : total (L.take (k + 1)) ≤ total L := total_take_le
      have ht4 : hits (L.take (k + 1)) p ≤ hits L p := hits_take_le
      have hcn : cntS s.1 s.2 ≤ 65536 := by omega
      have E1 : Hid (total (L.take (k + 1)) = total (L.take k) + cntS s.1 s.2) := e1
      have E2 : Hid (hits (L.take (k + 1)) p = hits (L.take k) p + if hasB s p then 1 else 0) := e2
      generalize hN : total (L.take k) = N at *
      generalize hI : hits (L.take k) p = I at *
      clear hlat hcell x0 x1 hs e1 e2 hN hI
      go_wp2_with (fail)
      refine (countS s.1 s.2 _ (by omega) (by omega)).mono ?_
      rintro e w5 ⟨rfl, hb5⟩
      have z0 := cell_on hb5 y0
      have z1 := cell_on hb5 y1
      have hb5' : Hid (Below w2.heap.size w2 w5) := hbl.out.trans (hb5.mono hbl.out.size)
      generalize hcnt : cntS s.1 s.2 = cn at *
      go_wp2_with (fail)
      refine (hasS s.1 s.2 p _).mono ?_
      rintro e w6 ⟨rfl, hb6⟩
      have hb6' : Hid (Below w2.heap.size w2 w6) := hb5'.out.trans (hb6.mono hb5'.out.size)
      clear z0 z1 hb5 hb6 hb5' y0 y1
      by_cases hh : hasB (s.1, s.2) p = true
      · rw [hh]
        have E3 : Hid (hits (L.take (k + 1)) p = I + 1) := by show _ = _; rw [E2.out, if_pos hh]
        go_wp2
        go_roundw
        case rel => exact ⟨k + 1, by omega, by go_num, by rw [E1.out]; go_num, by rw [E3.out]; go_num, hb6'⟩
        case measure => simp [intOf]; omega
      · rw [show hasB (s.1, s.2) p = false by simpa using hh]
        have E3 : Hid (hits (L.take (k + 1)) p = I) := by show _ = _; rw [E2.out, if_neg hh]; rfl
        go_wp2
        go_roundw
        case rel => exact ⟨k + 1, by omega, by go_num, by rw [E1.out]; go_num, by rw [E3.out]; go_num, hb6'⟩
        case measure => simp [intOf]; omega
    · obtain rfl : k = L.length := by omega
      have hN : 0 + total (L.take L.length) = cntS a b := by rw [List.take_length]; exact HT.out
      have hI : 0 + hits (L.take L.length) p = (if hasB (a, b) p then 1 else 0) := by rw [List.take_length]; exact HH.out
      rw [hN, hI]
      have x0 := cell_on hbl.out x0_2
      have x1 := cell_on hbl.out x1_2
      have hbw : Hid (Below w.heap.size w wr) := hw2.out.trans (hbl.out.mono hl2)
      clear hN hI HT HH ht1 ht2 hbl hTb hHb hin1 hlat
      have hcc := fun W => countS a b W ha hb
      have hhh := fun W => hasS a b p W
      generalize cntS a b = cn at hcc hcs ⊢
      by_cases hh : hasB (a, b) p = true
      · rw [hh] at hhh
        rw [if_pos hh]
        clear hh
        go_wp2_with (fail)
        refine (awakeS _).mono ?_
        rintro e w7 ⟨rfl, hb7⟩
        have z0 := cell_on hb7 x0
        have z1 := cell_on hb7 x1
        go_wp2_with (fail)
        refine (hcc _).mono ?_
        rintro e w8 ⟨rfl, hb8⟩
        have u0 := cell_on hb8 z0
        have u1 := cell_on hb8 z1
        go_wp2_with (fail)
        refine (hhh _).mono ?_
        rintro e w9 ⟨rfl, hb9⟩
        go_wp2
        go_ret
        exact ⟨rfl, ((hbw.out.trans (hb7.mono hbw.out.size)).trans (hb8.mono (Nat.le_trans hbw.out.size hb7.size))).trans (hb9.mono (Nat.le_trans (Nat.le_trans hbw.out.size hb7.size) hb8.size))⟩
      · rw [show hasB (a, b) p = false by simpa using hh] at hhh
        rw [if_neg hh]
        clear hh
        go_wp2_with (fail)
        refine (awakeS _).mono ?_
        rintro e w7 ⟨rfl, hb7⟩
        have z0 := cell_on hb7 x0
        have z1 := cell_on hb7 x1
        go_wp2_with (fail)
        refine (hcc _).mono ?_
        rintro e w8 ⟨rfl, hb8⟩
        have u0 := cell_on hb8 z0
        have u1 := cell_on hb8 z1
        go_wp2_with (fail)
        refine (hhh _).mono ?_
        rintro e w9 ⟨rfl, hb9⟩
        go_wp2
        go_ret
        exact ⟨rfl, ((hbw.out.trans (hb7.mono hbw.out.size)).trans (hb8.mono (Nat.le_trans hbw.out.size hb7.size))).trans (hb9.mono (Nat.le_trans (Nat.le_trans hbw.out.size hb7.size) hb8.size))⟩

theorem spanParts_walk (a b : Nat) (ha : a < 65536) (hb : b < 65536) (c d : Nat) (hc : c < 65536) (hd : d < 65536) (p : Nat) (hp : p < 65536) (w : World) :
    Calls Try.prog 5 #[.agg #[.int .u16 a, .int .u16 b], .agg #[.int .u16 c, .int .u16 d], .int .u16 p] w fun e w' => e = .returned (.bool true) ∧ Below w.heap.size w w' := by
  by_cases h : max a c ≤ min b d
  · cases hpm : meetB (a, b) (c, d) p with
    | true => exact spanParts_has a b ha hb c d hc hd p hp w h hpm
    | false => exact spanParts_not a b ha hb c d hc hd p hp w h hpm
  · exact spanParts_no a b ha hb c d hc hd p hp w h

set_option maxRecDepth 100000 in
theorem spanParts_lifted (os : Os) (started : os.Started) (H : Type) (enc : TypeId × Value → H) :
    ReturnsInHanded {} Try.checked os 5 .any (Rows.spanPartsSpec.pre6 enc Try.prog Try.f5 Rows.spanPartsRow.domain false) (Rows.spanPartsSpec.post enc Try.prog Try.f5 false true false false) := by
  refine returnsInHanded_of_change (C := Try.checked) own started (by kernel_rfl) Try.func5
    (ChangeSpec.witness6 (enc := enc) (C := Try.checked) false ⟨#[], #[.agg #[.int .u16 0, .int .u16 0], .agg #[.int .u16 0, .int .u16 0], .int .u16 0], []⟩ 8 (by kernel_rfl) (by kernel_rfl) (by kernel_rfl) (by kernel_rfl)) ?_
  intro W base args ds gs before hval0 hW hcnd _
  have hval : ∀ (j : Nat) t v, Try.f5.params[j]? = some t → args[j]? = some v → Value.okWide Try.prog W .any base t v := hval0
  have hW' := hW
  obtain ⟨p, q, hA0, hV, rfl, hfz, hnd⟩ := hW
  have hA : DataW.TrodAll enc Try.prog W 0 (fun _ => true) true Try.f5.params.toList args.toList ds p := hA0
  rw [Try.params5] at hA hval
  obtain ⟨v0, vs0, d0, ds0, p0, q0, hargs, rfl, rfl, h0, r0⟩ := trodAll_cons hA
  obtain ⟨v1, vs1, d1, ds1, p1, q1, rfl, rfl, rfl, h1, r1⟩ := trodAll_cons r0
  obtain ⟨v2, vs2, d2, ds2, p2, q2, rfl, rfl, rfl, h2, r2⟩ := trodAll_cons r1
  obtain ⟨rfl, rfl, rfl⟩ := trodAll_nil r2
  obtain rfl : args = #[v0, v1, v2] := by cases args; simp_all
  obtain ⟨rfl, rfl⟩ := trodVars_none hV
  obtain ⟨a0, n0, rfl, rfl, rfl, w0, x0⟩ := open_sp (hval 0 31 v0 rfl rfl) h0
  obtain ⟨b0, rfl, t0⟩ := wf_u16 w0
  obtain ⟨c0, rfl, u0⟩ := wf_u16 x0
  obtain ⟨a1, n1, rfl, rfl, rfl, w1, x1⟩ := open_sp (hval 1 31 v1 rfl rfl) h1
  obtain ⟨b1, rfl, t1⟩ := wf_u16 w1
  obtain ⟨c1, rfl, u1⟩ := wf_u16 x1
  obtain ⟨a2, rfl, rfl, rfl, w2⟩ := open_int Try.underlying29 (hval 2 29 v2 rfl rfl) h2
  obtain ⟨b2, rfl, t2⟩ := wf_u16 w2
  clear hA0 hval0
  simp only [List.append_nil] at hW'
  refine (spanParts_walk b0 c0 t0 u0 b1 c1 t1 u1 b2 t2 W).mono fun e W' ⟨he, bel⟩ => ?_
  subst he
  exact ⟨_, rfl, _, _, _, [], _, [], hW', trodAll_mk1 (shut_bool Try.underlying4 _), (trodAll_cons_mk (shut_sp w0 x0) (trodAll_cons_mk (shut_sp w1 x1) (trodAll_cons_mk (shut_int Try.underlying29 w2) trodAll_mk0))), rfl, bel.frame _, fun h => by cases h⟩

/-- The given statement. -/
theorem spanParts_holds : Rows.SpanPartsSaid :=
  OpenClaim.holds_of_wide 5 Try.f5 rfl rfl rfl rfl rfl rfl rfl ⟨rfl, rfl, rfl, rfl, rfl⟩ rfl rfl rfl rfl rfl (by kernel_rfl) Try.func5 (by kernel_rfl)
    (of_decide_eq_true (by kernel_rfl)) (by unfold Func.isWrapper; first | (rw [if_pos (by decide +kernel)]; kernel_rfl) | (rw [if_neg (by decide +kernel)]; exact ⟨rfl, rfl⟩))
    (fun os started H enc _ => spanParts_lifted os started H enc)
#print axioms spanParts_holds
end Go.Proofs.Ythmekipdhlipbab
