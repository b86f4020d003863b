/-
  For any two boxes that may be, what box.Less tells and what box.Meet tells have together as many headers as the first (P7.5); and the examples of the document hold.
  Conditions: none; the law holds for every input.
-/
import Derived.Test.YthggiblkehcfaabBxAw
import Derived.Test.YthggiblkehcfaabBxPlD
import Derived.Test.YthggiblkehcfaabBxFrame
namespace Go.Proofs.Ythggiblkehcfaab
open Go.ChangeShapes Go.WideShapes Go.ChangeAt Go.RowKit Go.Joins
set_option linter.unusedVariables false
set_option linter.unusedSimpArgs false

/-- A row's cells. -/
theorem RowX.at {w : World} {b : Nat} {ad : Option Addr} {n cap : Nat} {l : List Bx} (h : RowX w b (.slice ad n cap) l) (h0 : 0 < l.length) : ∃ g, ad = some ⟨g, 0, none⟩ ∧ ∀ k (hk : k < l.length) j, j < 10 → w.cell? ⟨g, k * 10 + j, none⟩ = (encX (l[k]'hk))[j]? := by
  obtain ⟨ad', cap', e, _, hat⟩ := h.form
  cases e
  obtain ⟨g, e, _, _, hc⟩ := hat h0
  exact ⟨g, e, hc⟩
/-- Two halves and two halves: the carry. -/
theorem carry {S c : Nat} (h : S + c ≤ 20282409603651670423947251286016) : ∃ x' y' : Nat, (x' = hiW (S + c) ∧ y' = loW (S + c)) ∧ IntKind.u64.wrap (((loW S : Nat) : Int) + ((loW c : Nat) : Int)) = (y' : Int) ∧
    ((decide (y' < loW c) = false ∧ IntKind.u64.wrap (((hiW S : Nat) : Int) + ((hiW c : Nat) : Int)) = (x' : Int)) ∨
     (decide (y' < loW c) = true ∧ ∃ t : Nat, IntKind.u64.wrap (((hiW S : Nat) : Int) + ((hiW c : Nat) : Int)) = (t : Int) ∧ IntKind.u64.wrap ((t : Int) + 1) = (x' : Int))) := by
  refine ⟨_, _, ⟨rfl, rfl⟩, ?_⟩
  unfold hiW loW
  simp only [IntKind.wrap_u64]
  refine ⟨by omega, ?_⟩
  by_cases hc : S % 18446744073709551616 + c % 18446744073709551616 < 18446744073709551616
  · exact .inl ⟨decide_eq_false (by omega), by omega⟩
  · exact .inr ⟨decide_eq_true (by omega), S / 18446744073709551616 + c / 18446744073709551616, by omega, by omega⟩
theorem sum_take_le (f : Bx → Nat) : ∀ (l : List Bx) (k : Nat), ((l.take k).map f).sum ≤ (l.map f).sum
  | [], k => by simp
  | a :: l, 0 => by simp
  | a :: l, k + 1 => by
    have := sum_take_le f l k
    simp only [List.take_succ_cons, List.map_cons, List.sum_cons]
    omega
theorem tot_both {X Y : Bx} (bX : BdX X) (bY : BdX Y) (h : bothX X Y = true) : cntX (meetX X Y) + ((lessX X Y).map cntX).sum = cntX X := by
  have e := lessB_cnt h bX bY
  obtain ⟨hx, hy, _⟩ := (bothX_iff X Y).1 h
  unfold meetX lessX
  rw [hx, hy, h]
  simp only [Bool.and_self, if_true]
  omega
theorem tot_none {X Y : Bx} (hx : okX X = true) (hy : okX Y = true) (h : bothX X Y = false) : 0 + ((lessX X Y).map cntX).sum = cntX X := by
  unfold lessX
  rw [hx, hy, h]
  simp
set_option maxRecDepth 20000 in
set_option maxHeartbeats 4000000 in
theorem boxTells_walk (X : Bx) (bX : BdX X) (Y : Bx) (bY : BdX Y) (w : World) :
    Calls Try.prog 4 #[.agg #[.int .u32 (X.a.1 : Int), .int .u32 (X.a.2 : Int), .int .u32 (X.b.1 : Int), .int .u32 (X.b.2 : Int), .int .u16 (X.c.1 : Int), .int .u16 (X.c.2 : Int), .int .u16 (X.d.1 : Int), .int .u16 (X.d.2 : Int), .int .u8 (X.m.1 : Int), .int .u8 (X.m.2 : Int)], .agg #[.int .u32 (Y.a.1 : Int), .int .u32 (Y.a.2 : Int), .int .u32 (Y.b.1 : Int), .int .u32 (Y.b.2 : Int), .int .u16 (Y.c.1 : Int), .int .u16 (Y.c.2 : Int), .int .u16 (Y.d.1 : Int), .int .u16 (Y.d.2 : Int), .int .u8 (Y.m.1 : Int), .int .u8 (Y.m.2 : Int)]] w fun e w' => e = .returned (.bool true) ∧ Below w.heap.size w w' := by
  have hC1 := fun W => checkC X W bX
  have hC2 := fun W => checkC Y W bY
  have hM := fun W => meetXC X Y W bX bY
  have hL := fun W => lessXC X Y W bX bY
  have hN1 := fun W => countXC X W bX
  have hN2 := fun W => countXC (meetX X Y) W (meetX_bd bX bY)
  have hA := fun W => awakeX W
  have HBL : Hid (∀ Z ∈ lessX X Y, BdX Z) := lessX_bd bX bY
  have HLEN : Hid ((lessX X Y).length ≤ 16) := lessX_len X Y
  have hcx := cntX_le bX
  cases hx : okX X
  · have hn : ¬ chkX X = 0 := fun e => by rw [chkX_ok, hx] at e; cases e
    have hd : decide (chkX X = 0) = false := decide_eq_false hn
    generalize chkX X = cc at *
    clear hx hC2 hM hL hN1 hN2 HBL bX bY hcx
    go_enter Try.func4, Try.ntmps4
    go_wp2_with (fail)
    refine (hC1 _).mono ?_
    rintro e w1 ⟨rfl, hb1⟩
    have hbl1 : Hid (Below w.heap.size w w1) := by show Below _ _ _; (repeat (first | assumption | exact Below.refl _ _ | refine Below.drew ?_ | refine bel_drewN ?_ _ | refine Below.setCell ?_ (by first | omega | (simp; done) | (simp; omega)) _ | refine Below.alloc ?_ (by first | omega | (simp; done) | (simp; omega)) _ | refine bel_of ?_ (by assumption)))
    clear hb1 hC1
    go_wp2_with (fail)
    refine (hA _).mono ?_
    rintro e w2 ⟨rfl, hb2⟩
    go_wp2
    go_ret
    exact ⟨rfl, hbl1.out.trans (hb2.mono hbl1.out.size)⟩
  · rw [chkX_ok.2 hx] at hC1
    cases hy : okX Y
    · have hn : ¬ chkX Y = 0 := fun e => by rw [chkX_ok, hy] at e; cases e
      have hd : decide (chkX Y = 0) = false := decide_eq_false hn
      generalize chkX Y = cc at *
      clear hx hy hM hL hN1 hN2 HBL bX bY hcx
      go_enter Try.func4, Try.ntmps4
      go_wp2_with (fail)
      refine (hC1 _).mono ?_
      rintro e w1 ⟨rfl, hb1⟩
      have HY1 : w1.heap[w.heap.size + 1]? = some (.cells #[.int .u32 (Y.a.1 : Int), .int .u32 (Y.a.2 : Int), .int .u32 (Y.b.1 : Int), .int .u32 (Y.b.2 : Int), .int .u16 (Y.c.1 : Int), .int .u16 (Y.c.2 : Int), .int .u16 (Y.d.1 : Int), .int .u16 (Y.d.2 : Int), .int .u8 (Y.m.1 : Int), .int .u8 (Y.m.2 : Int)] 31) := blk_on (by simpa using blk_new (w.alloc (.cells #[.int .u32 (X.a.1 : Int), .int .u32 (X.a.2 : Int), .int .u32 (X.b.1 : Int), .int .u32 (X.b.2 : Int), .int .u16 (X.c.1 : Int), .int .u16 (X.c.2 : Int), .int .u16 (X.d.1 : Int), .int .u16 (X.d.2 : Int), .int .u8 (X.m.1 : Int), .int .u8 (X.m.2 : Int)] 31)) (.cells #[.int .u32 (Y.a.1 : Int), .int .u32 (Y.a.2 : Int), .int .u32 (Y.b.1 : Int), .int .u32 (Y.b.2 : Int), .int .u16 (Y.c.1 : Int), .int .u16 (Y.c.2 : Int), .int .u16 (Y.d.1 : Int), .int .u16 (Y.d.2 : Int), .int .u8 (Y.m.1 : Int), .int .u8 (Y.m.2 : Int)] 31)) hb1
      have hbl1 : Hid (Below w.heap.size w w1) := by show Below _ _ _; (repeat (first | assumption | exact Below.refl _ _ | refine Below.drew ?_ | refine bel_drewN ?_ _ | refine Below.setCell ?_ (by first | omega | (simp; done) | (simp; omega)) _ | refine Below.alloc ?_ (by first | omega | (simp; done) | (simp; omega)) _ | refine bel_of ?_ (by assumption)))
      clear hb1 hC1
      obtain ⟨d0, d1, d2, d3, d4, d5, d6, d7, d8, d9⟩ := blk10 HY1
      clear HY1
      go_wp2_with (fail)
      refine (hC2 _).mono ?_
      rintro e w2 ⟨rfl, hb2⟩
      have hbl2 : Hid (Below w.heap.size w w2) := hbl1.out.trans (hb2.mono hbl1.out.size)
      clear hb2 hC2
      go_wp2_with (fail)
      refine (hA _).mono ?_
      rintro e w3 ⟨rfl, hb3⟩
      go_wp2
      go_ret
      exact ⟨rfl, hbl2.out.trans (hb3.mono hbl2.out.size)⟩
    · rw [chkX_ok.2 hy] at hC2
      cases hb : bothX X Y
      · have htot := tot_none hx hy hb
        rw [hb] at hM
        obtain ⟨S0, hS0⟩ : ∃ S0, S0 = 0 := ⟨_, rfl⟩
        rw [← hS0] at htot
        have HS0 : Hid ((0 : Nat) = hiW S0 ∧ (0 : Nat) = loW S0) := by rw [hS0]; exact ⟨rfl, rfl⟩
        clear hS0 hN2
        generalize lessX X Y = l at *
        generalize meetX X Y = M at *
        have HTOT : Hid (∀ k, k ≤ l.length → S0 + ((l.take k).map cntX).sum ≤ 20282409603651670423947251286016) := fun k hk => by have := sum_take_le cntX l k; omega
        have HTX : Hid (S0 + (l.map cntX).sum = cntX X) := htot
        obtain ⟨H, hH⟩ : ∃ H, H = hiW (cntX X) := ⟨_, rfl⟩
        obtain ⟨L, hLe⟩ : ∃ L, L = loW (cntX X) := ⟨_, rfl⟩
        rw [← hH, ← hLe] at hN1
        have HHL : Hid (H = hiW (cntX X) ∧ L = loW (cntX X)) := ⟨hH, hLe⟩
        clear hx hy hb htot hcx hH hLe bX bY
        go_enter Try.func4, Try.ntmps4
        go_wp2_with (fail)
        refine (hC1 _).mono ?_
        rintro e w1 ⟨rfl, hb1⟩
        have HX1 : Hid (w1.heap[w.heap.size]? = some (.cells #[.int .u32 (X.a.1 : Int), .int .u32 (X.a.2 : Int), .int .u32 (X.b.1 : Int), .int .u32 (X.b.2 : Int), .int .u16 (X.c.1 : Int), .int .u16 (X.c.2 : Int), .int .u16 (X.d.1 : Int), .int .u16 (X.d.2 : Int), .int .u8 (X.m.1 : Int), .int .u8 (X.m.2 : Int)] 31)) := blk_on (blk_alloc (blk_new w (.cells #[.int .u32 (X.a.1 : Int), .int .u32 (X.a.2 : Int), .int .u32 (X.b.1 : Int), .int .u32 (X.b.2 : Int), .int .u16 (X.c.1 : Int), .int .u16 (X.c.2 : Int), .int .u16 (X.d.1 : Int), .int .u16 (X.d.2 : Int), .int .u8 (X.m.1 : Int), .int .u8 (X.m.2 : Int)] 31)) _) hb1
        have HY1 : Hid (w1.heap[w.heap.size + 1]? = some (.cells #[.int .u32 (Y.a.1 : Int), .int .u32 (Y.a.2 : Int), .int .u32 (Y.b.1 : Int), .int .u32 (Y.b.2 : Int), .int .u16 (Y.c.1 : Int), .int .u16 (Y.c.2 : Int), .int .u16 (Y.d.1 : Int), .int .u16 (Y.d.2 : Int), .int .u8 (Y.m.1 : Int), .int .u8 (Y.m.2 : Int)] 31)) := blk_on (by simpa using blk_new (w.alloc (.cells #[.int .u32 (X.a.1 : Int), .int .u32 (X.a.2 : Int), .int .u32 (X.b.1 : Int), .int .u32 (X.b.2 : Int), .int .u16 (X.c.1 : Int), .int .u16 (X.c.2 : Int), .int .u16 (X.d.1 : Int), .int .u16 (X.d.2 : Int), .int .u8 (X.m.1 : Int), .int .u8 (X.m.2 : Int)] 31)) (.cells #[.int .u32 (Y.a.1 : Int), .int .u32 (Y.a.2 : Int), .int .u32 (Y.b.1 : Int), .int .u32 (Y.b.2 : Int), .int .u16 (Y.c.1 : Int), .int .u16 (Y.c.2 : Int), .int .u16 (Y.d.1 : Int), .int .u16 (Y.d.2 : Int), .int .u8 (Y.m.1 : Int), .int .u8 (Y.m.2 : Int)] 31)) hb1
        have hbl1 : Hid (Below w.heap.size w w1) := by show Below _ _ _; (repeat (first | assumption | exact Below.refl _ _ | refine Below.drew ?_ | refine bel_drewN ?_ _ | refine Below.setCell ?_ (by first | omega | (simp; done) | (simp; omega)) _ | refine Below.alloc ?_ (by first | omega | (simp; done) | (simp; omega)) _ | refine bel_of ?_ (by assumption)))
        clear hb1 hC1
        obtain ⟨d0, d1, d2, d3, d4, d5, d6, d7, d8, d9⟩ := blk10 HY1.out
        go_wp2_with (fail)
        refine (hC2 _).mono ?_
        rintro e w2 ⟨rfl, hb2⟩
        have HX2 : Hid (w2.heap[w.heap.size]? = some (.cells #[.int .u32 (X.a.1 : Int), .int .u32 (X.a.2 : Int), .int .u32 (X.b.1 : Int), .int .u32 (X.b.2 : Int), .int .u16 (X.c.1 : Int), .int .u16 (X.c.2 : Int), .int .u16 (X.d.1 : Int), .int .u16 (X.d.2 : Int), .int .u8 (X.m.1 : Int), .int .u8 (X.m.2 : Int)] 31)) := blk_on HX1.out hb2
        have HY2 : Hid (w2.heap[w.heap.size + 1]? = some (.cells #[.int .u32 (Y.a.1 : Int), .int .u32 (Y.a.2 : Int), .int .u32 (Y.b.1 : Int), .int .u32 (Y.b.2 : Int), .int .u16 (Y.c.1 : Int), .int .u16 (Y.c.2 : Int), .int .u16 (Y.d.1 : Int), .int .u16 (Y.d.2 : Int), .int .u8 (Y.m.1 : Int), .int .u8 (Y.m.2 : Int)] 31)) := blk_on HY1.out hb2
        have hbl2 : Hid (Below w.heap.size w w2) := hbl1.out.trans (hb2.mono hbl1.out.size)
        clear hb2 hC2 d0 d1 d2 d3 d4 d5 d6 d7 d8 d9 HX1 HY1 hbl1
        obtain ⟨c0, c1, c2, c3, c4, c5, c6, c7, c8, c9⟩ := blk10 HX2.out
        go_wp2_with (fail)
        refine (hN1 _).mono ?_
        rintro e w3 ⟨rfl, hb3⟩
        have HX3 : Hid (w3.heap[w.heap.size]? = some (.cells #[.int .u32 (X.a.1 : Int), .int .u32 (X.a.2 : Int), .int .u32 (X.b.1 : Int), .int .u32 (X.b.2 : Int), .int .u16 (X.c.1 : Int), .int .u16 (X.c.2 : Int), .int .u16 (X.d.1 : Int), .int .u16 (X.d.2 : Int), .int .u8 (X.m.1 : Int), .int .u8 (X.m.2 : Int)] 31)) := blk_on HX2.out hb3
        have HY3 : Hid (w3.heap[w.heap.size + 1]? = some (.cells #[.int .u32 (Y.a.1 : Int), .int .u32 (Y.a.2 : Int), .int .u32 (Y.b.1 : Int), .int .u32 (Y.b.2 : Int), .int .u16 (Y.c.1 : Int), .int .u16 (Y.c.2 : Int), .int .u16 (Y.d.1 : Int), .int .u16 (Y.d.2 : Int), .int .u8 (Y.m.1 : Int), .int .u8 (Y.m.2 : Int)] 31)) := blk_on HY2.out hb3
        have hbl3 : Hid (Below w.heap.size w w3) := hbl2.out.trans (hb3.mono hbl2.out.size)
        clear hb3 hN1 c0 c1 c2 c3 c4 c5 c6 c7 c8 c9 HX2 HY2 hbl2
        obtain ⟨c0, c1, c2, c3, c4, c5, c6, c7, c8, c9⟩ := blk10 HX3.out
        obtain ⟨d0, d1, d2, d3, d4, d5, d6, d7, d8, d9⟩ := blk10 HY3.out
        go_wp2_with (fail)
        refine (hM _).mono ?_
        rintro e w4 ⟨rfl, hb4⟩
        have HX4 : Hid (w4.heap[w.heap.size]? = some (.cells #[.int .u32 (X.a.1 : Int), .int .u32 (X.a.2 : Int), .int .u32 (X.b.1 : Int), .int .u32 (X.b.2 : Int), .int .u16 (X.c.1 : Int), .int .u16 (X.c.2 : Int), .int .u16 (X.d.1 : Int), .int .u16 (X.d.2 : Int), .int .u8 (X.m.1 : Int), .int .u8 (X.m.2 : Int)] 31)) := blk_on HX3.out hb4
        have HY4 : Hid (w4.heap[w.heap.size + 1]? = some (.cells #[.int .u32 (Y.a.1 : Int), .int .u32 (Y.a.2 : Int), .int .u32 (Y.b.1 : Int), .int .u32 (Y.b.2 : Int), .int .u16 (Y.c.1 : Int), .int .u16 (Y.c.2 : Int), .int .u16 (Y.d.1 : Int), .int .u16 (Y.d.2 : Int), .int .u8 (Y.m.1 : Int), .int .u8 (Y.m.2 : Int)] 31)) := blk_on HY3.out hb4
        have hbl4 : Hid (Below w.heap.size w w4) := hbl3.out.trans (hb4.mono hbl3.out.size)
        clear hb4 hM c0 c1 c2 c3 c4 c5 c6 c7 c8 c9 d0 d1 d2 d3 d4 d5 d6 d7 d8 d9 HX3 HY3 hbl3
        have hl4 := blk_lt HY4.out
        have hl4' : w.heap.size < w4.heap.size := by omega
        have n4 : ¬ w.heap.size = w4.heap.size := by omega
        have n4' : ¬ w.heap.size + 1 = w4.heap.size := by omega
        obtain ⟨c0, c1, c2, c3, c4, c5, c6, c7, c8, c9⟩ := blk10 HX4.out
        obtain ⟨d0, d1, d2, d3, d4, d5, d6, d7, d8, d9⟩ := blk10 HY4.out
        go_wp2_with (fail)
        refine (hL _).mono ?_
        rintro e w6 ⟨v6, rfl, hr6, hb6⟩
        have hblr : Hid (Below w.heap.size w w6) := (hbl4.out.alloc (by omega) _).trans (hb6.mono (by simp; omega))
        clear hb6 hL c0 c1 c2 c3 c4 c5 c6 c7 c8 c9 d0 d1 d2 d3 d4 d5 d6 d7 d8 d9
        obtain ⟨ad, cap, rfl, hcap, _⟩ := hr6.form
        obtain ⟨n, hn⟩ : ∃ n, n = l.length := ⟨_, rfl⟩
        rw [← hn] at hcap ⊢
        have HRow : Hid (RowX w6 0 (.slice ad n cap) l) := by rw [hn]; exact hr6.base (Nat.zero_le _)
        have HN : Hid (n = l.length) := hn
        have hnb : n ≤ 16 := by rw [hn]; exact HLEN.out
        clear hr6 hn
        go_wp2_with (fail)
        go_loopw [9, 10, 12] (fun xv yv iv wr => ∃ (k x y : Nat), k ≤ n ∧ iv = .int .i64 (k : Int) ∧ xv = .int .u64 (x : Int) ∧ yv = .int .u64 (y : Int) ∧ Hid (x = hiW (S0 + ((l.take k).map cntX).sum) ∧ y = loW (S0 + ((l.take k).map cntX).sum)) ∧ Hid (RowX wr 0 (.slice ad n cap) l) ∧ Hid (Below w.heap.size w wr)) (fun _ _ iv _ => n - (intOf iv).toNat)
        case atStart => exact ⟨0, 0, 0, Nat.zero_le _, rfl, rfl, rfl, by show _ = _ ∧ _ = _; simpa using HS0.out, HRow.out, hblr.out⟩
        case round =>
          obtain ⟨k, x, y, hk, rfl, rfl, rfl, hxy, hrow, hbr⟩ := hrel
          by_cases hltn : k < n
          · have hlt : k < l.length := by rw [← HN.out]; exact hltn
            have hat := hrow.out.at
            obtain ⟨g, hg, cc⟩ := hat (by omega)
            obtain rfl := hg
            obtain ⟨p, hp⟩ : ∃ p, p = l[k] := ⟨_, rfl⟩
            have x0 : wr.cell? ⟨g, k * 10, none⟩ = some (.int .u32 (p.a.1 : Int)) := by rw [hp]; exact cc k hlt 0 (by decide)
            have x1 : wr.cell? ⟨g, k * 10 + 1, none⟩ = some (.int .u32 (p.a.2 : Int)) := by rw [hp]; exact cc k hlt 1 (by decide)
            have x2 : wr.cell? ⟨g, k * 10 + 2, none⟩ = some (.int .u32 (p.b.1 : Int)) := by rw [hp]; exact cc k hlt 2 (by decide)
            have x3 : wr.cell? ⟨g, k * 10 + 3, none⟩ = some (.int .u32 (p.b.2 : Int)) := by rw [hp]; exact cc k hlt 3 (by decide)
            have x4 : wr.cell? ⟨g, k * 10 + 4, none⟩ = some (.int .u16 (p.c.1 : Int)) := by rw [hp]; exact cc k hlt 4 (by decide)
            have x5 : wr.cell? ⟨g, k * 10 + 5, none⟩ = some (.int .u16 (p.c.2 : Int)) := by rw [hp]; exact cc k hlt 5 (by decide)
            have x6 : wr.cell? ⟨g, k * 10 + 6, none⟩ = some (.int .u16 (p.d.1 : Int)) := by rw [hp]; exact cc k hlt 6 (by decide)
            have x7 : wr.cell? ⟨g, k * 10 + 7, none⟩ = some (.int .u16 (p.d.2 : Int)) := by rw [hp]; exact cc k hlt 7 (by decide)
            have x8 : wr.cell? ⟨g, k * 10 + 8, none⟩ = some (.int .u8 (p.m.1 : Int)) := by rw [hp]; exact cc k hlt 8 (by decide)
            have x9 : wr.cell? ⟨g, k * 10 + 9, none⟩ = some (.int .u8 (p.m.2 : Int)) := by rw [hp]; exact cc k hlt 9 (by decide)
            have hpb : Hid (BdX p) := by show BdX p; rw [hp]; exact HBL.out _ (List.getElem_mem hlt)
            have hcn := fun W => countXC p W hpb.out
            have hsum : ((l.take (k + 1)).map cntX).sum = ((l.take k).map cntX).sum + cntX p := by rw [List.take_succ_eq_append_getElem hlt, List.map_append, List.sum_append, hp]; simp
            have hle : S0 + ((l.take k).map cntX).sum + cntX p ≤ 20282409603651670423947251286016 := by
              have := HTOT.out (k + 1) (by omega)
              omega
            obtain ⟨x', y', e1, e2, e3⟩ := carry (S := S0 + ((l.take k).map cntX).sum) (c := cntX p) hle
            rw [Nat.add_assoc, ← hsum] at e1
            rw [← hxy.out.2] at e2
            rw [← hxy.out.1] at e3
            have HX' : Hid (x' = hiW (S0 + ((l.take (k + 1)).map cntX).sum) ∧ y' = loW (S0 + ((l.take (k + 1)).map cntX).sum)) := e1
            generalize hiW (cntX p) = P at *
            generalize loW (cntX p) = R at *
            have hz := hbr.out.size
            clear cc hat hlt hsum hle hp hxy e1
            have hlt' : (k : Int) < (n : Int) := by omega
            have hk0 : (0 : Int) ≤ (k : Int) := by omega
            go_wp2_with (fail)
            refine (hcn _).mono ?_
            rintro e w8 ⟨rfl, hb8⟩
            have HR8 : Hid (RowX w8 0 (.slice (some ⟨g, 0, none⟩) n cap) l) := hrow.out.on hb8
            have HB8 : Hid (Below w.heap.size w w8) := hbr.out.trans (hb8.mono hz)
            clear hb8 hcn x0 x1 x2 x3 x4 x5 x6 x7 x8 x9 hrow hbr
            have hy1 : IntKind.u64.wrap ((y : Int) + (R : Int)) = (y' : Int) := e2
            rcases e3 with ⟨q1, q2⟩ | ⟨q1, q2⟩
            · have hd : decide (y' < R) = false := q1
              have hx1 : IntKind.u64.wrap ((x : Int) + (P : Int)) = (x' : Int) := q2
              clear e2 q1 q2
              go_wp2_with (fail)
              go_roundw
              case rel => exact ⟨k + 1, x', y', by omega, by go_num, by first | rfl | (rw [hx1]), by first | rfl | (rw [hy1]), HX'.out, HR8.out, HB8.out⟩
              case measure => simp [intOf]; omega
            · have hd : decide (y' < R) = true := q1
              obtain ⟨t, q3, q4⟩ := q2
              have hx1 : IntKind.u64.wrap ((x : Int) + (P : Int)) = (t : Int) := q3
              have hx2 : IntKind.u64.wrap ((t : Int) + 1) = (x' : Int) := q4
              clear e2 q1 q3 q4
              go_wp2_with (fail)
              go_roundw
              case rel => exact ⟨k + 1, x', y', by omega, by go_num, by first | rfl | (rw [hx1, hx2]), by first | rfl | (rw [hy1]), HX'.out, HR8.out, HB8.out⟩
              case measure => simp [intOf]; omega
          · obtain rfl : k = n := by omega
            have HF : Hid (x = H ∧ y = L) := by
              have := hxy.out
              rw [HN.out, List.take_length, HTX.out] at this
              exact ⟨this.1.trans HHL.out.1.symm, this.2.trans HHL.out.2.symm⟩
            obtain ⟨rfl, rfl⟩ := HF.out
            clear hxy
            go_wp2_with (fail)
            refine (hA _).mono ?_
            rintro e w9 ⟨rfl, hb9⟩
            have HB9 : Hid (Below w.heap.size w w9) := hbr.out.trans (hb9.mono hbr.out.size)
            clear hb9
            go_wp2
            go_ret
            exact ⟨rfl, HB9.out⟩
      · have htot := tot_both bX bY hb
        rw [hb] at hM
        generalize lessX X Y = l at *
        generalize meetX X Y = M at *
        obtain ⟨S0, hS0⟩ : ∃ S0, S0 = cntX M := ⟨_, rfl⟩
        rw [← hS0] at htot hN2
        obtain ⟨x0, hx0⟩ : ∃ x0, x0 = hiW S0 := ⟨_, rfl⟩
        obtain ⟨y0, hy0⟩ : ∃ y0, y0 = loW S0 := ⟨_, rfl⟩
        rw [← hx0, ← hy0] at hN2
        have HS0 : Hid (x0 = hiW S0 ∧ y0 = loW S0) := ⟨hx0, hy0⟩
        have HTOT : Hid (∀ k, k ≤ l.length → S0 + ((l.take k).map cntX).sum ≤ 20282409603651670423947251286016) := fun k hk => by have := sum_take_le cntX l k; omega
        have HTX : Hid (S0 + (l.map cntX).sum = cntX X) := htot
        obtain ⟨H, hH⟩ : ∃ H, H = hiW (cntX X) := ⟨_, rfl⟩
        obtain ⟨L, hLe⟩ : ∃ L, L = loW (cntX X) := ⟨_, rfl⟩
        rw [← hH, ← hLe] at hN1
        have HHL : Hid (H = hiW (cntX X) ∧ L = loW (cntX X)) := ⟨hH, hLe⟩
        clear hx hy hb htot hcx hH hLe bX bY hS0 hx0 hy0
        go_enter Try.func4, Try.ntmps4
        go_wp2_with (fail)
        refine (hC1 _).mono ?_
        rintro e w1 ⟨rfl, hb1⟩
        have HX1 : Hid (w1.heap[w.heap.size]? = some (.cells #[.int .u32 (X.a.1 : Int), .int .u32 (X.a.2 : Int), .int .u32 (X.b.1 : Int), .int .u32 (X.b.2 : Int), .int .u16 (X.c.1 : Int), .int .u16 (X.c.2 : Int), .int .u16 (X.d.1 : Int), .int .u16 (X.d.2 : Int), .int .u8 (X.m.1 : Int), .int .u8 (X.m.2 : Int)] 31)) := blk_on (blk_alloc (blk_new w (.cells #[.int .u32 (X.a.1 : Int), .int .u32 (X.a.2 : Int), .int .u32 (X.b.1 : Int), .int .u32 (X.b.2 : Int), .int .u16 (X.c.1 : Int), .int .u16 (X.c.2 : Int), .int .u16 (X.d.1 : Int), .int .u16 (X.d.2 : Int), .int .u8 (X.m.1 : Int), .int .u8 (X.m.2 : Int)] 31)) _) hb1
        have HY1 : Hid (w1.heap[w.heap.size + 1]? = some (.cells #[.int .u32 (Y.a.1 : Int), .int .u32 (Y.a.2 : Int), .int .u32 (Y.b.1 : Int), .int .u32 (Y.b.2 : Int), .int .u16 (Y.c.1 : Int), .int .u16 (Y.c.2 : Int), .int .u16 (Y.d.1 : Int), .int .u16 (Y.d.2 : Int), .int .u8 (Y.m.1 : Int), .int .u8 (Y.m.2 : Int)] 31)) := blk_on (by simpa using blk_new (w.alloc (.cells #[.int .u32 (X.a.1 : Int), .int .u32 (X.a.2 : Int), .int .u32 (X.b.1 : Int), .int .u32 (X.b.2 : Int), .int .u16 (X.c.1 : Int), .int .u16 (X.c.2 : Int), .int .u16 (X.d.1 : Int), .int .u16 (X.d.2 : Int), .int .u8 (X.m.1 : Int), .int .u8 (X.m.2 : Int)] 31)) (.cells #[.int .u32 (Y.a.1 : Int), .int .u32 (Y.a.2 : Int), .int .u32 (Y.b.1 : Int), .int .u32 (Y.b.2 : Int), .int .u16 (Y.c.1 : Int), .int .u16 (Y.c.2 : Int), .int .u16 (Y.d.1 : Int), .int .u16 (Y.d.2 : Int), .int .u8 (Y.m.1 : Int), .int .u8 (Y.m.2 : Int)] 31)) hb1
        have hbl1 : Hid (Below w.heap.size w w1) := by show Below _ _ _; (repeat (first | assumption | exact Below.refl _ _ | refine Below.drew ?_ | refine bel_drewN ?_ _ | refine Below.setCell ?_ (by first | omega | (simp; done) | (simp; omega)) _ | refine Below.alloc ?_ (by first | omega | (simp; done) | (simp; omega)) _ | refine bel_of ?_ (by assumption)))
        clear hb1 hC1
        obtain ⟨d0, d1, d2, d3, d4, d5, d6, d7, d8, d9⟩ := blk10 HY1.out
        go_wp2_with (fail)
        refine (hC2 _).mono ?_
        rintro e w2 ⟨rfl, hb2⟩
        have HX2 : Hid (w2.heap[w.heap.size]? = some (.cells #[.int .u32 (X.a.1 : Int), .int .u32 (X.a.2 : Int), .int .u32 (X.b.1 : Int), .int .u32 (X.b.2 : Int), .int .u16 (X.c.1 : Int), .int .u16 (X.c.2 : Int), .int .u16 (X.d.1 : Int), .int .u16 (X.d.2 : Int), .int .u8 (X.m.1 : Int), .int .u8 (X.m.2 : Int)] 31)) := blk_on HX1.out hb2
        have HY2 : Hid (w2.heap[w.heap.size + 1]? = some (.cells #[.int .u32 (Y.a.1 : Int), .int .u32 (Y.a.2 : Int), .int .u32 (Y.b.1 : Int), .int .u32 (Y.b.2 : Int), .int .u16 (Y.c.1 : Int), .int .u16 (Y.c.2 : Int), .int .u16 (Y.d.1 : Int), .int .u16 (Y.d.2 : Int), .int .u8 (Y.m.1 : Int), .int .u8 (Y.m.2 : Int)] 31)) := blk_on HY1.out hb2
        have hbl2 : Hid (Below w.heap.size w w2) := hbl1.out.trans (hb2.mono hbl1.out.size)
        clear hb2 hC2 d0 d1 d2 d3 d4 d5 d6 d7 d8 d9 HX1 HY1 hbl1
        obtain ⟨c0, c1, c2, c3, c4, c5, c6, c7, c8, c9⟩ := blk10 HX2.out
        go_wp2_with (fail)
        refine (hN1 _).mono ?_
        rintro e w3 ⟨rfl, hb3⟩
        have HX3 : Hid (w3.heap[w.heap.size]? = some (.cells #[.int .u32 (X.a.1 : Int), .int .u32 (X.a.2 : Int), .int .u32 (X.b.1 : Int), .int .u32 (X.b.2 : Int), .int .u16 (X.c.1 : Int), .int .u16 (X.c.2 : Int), .int .u16 (X.d.1 : Int), .int .u16 (X.d.2 : Int), .int .u8 (X.m.1 : Int), .int .u8 (X.m.2 : Int)] 31)) := blk_on HX2.out hb3
        have HY3 : Hid (w3.heap[w.heap.size + 1]? = some (.cells #[.int .u32 (Y.a.1 : Int), .int .u32 (Y.a.2 : Int), .int .u32 (Y.b.1 : Int), .int .u32 (Y.b.2 : Int), .int .u16 (Y.c.1 : Int), .int .u16 (Y.c.2 : Int), .int .u16 (Y.d.1 : Int), .int .u16 (Y.d.2 : Int), .int .u8 (Y.m.1 : Int), .int .u8 (Y.m.2 : Int)] 31)) := blk_on HY2.out hb3
        have hbl3 : Hid (Below w.heap.size w w3) := hbl2.out.trans (hb3.mono hbl2.out.size)
        clear hb3 hN1 c0 c1 c2 c3 c4 c5 c6 c7 c8 c9 HX2 HY2 hbl2
        obtain ⟨c0, c1, c2, c3, c4, c5, c6, c7, c8, c9⟩ := blk10 HX3.out
        obtain ⟨d0, d1, d2, d3, d4, d5, d6, d7, d8, d9⟩ := blk10 HY3.out
        go_wp2_with (fail)
        refine (hM _).mono ?_
        rintro e w4 ⟨rfl, hb4⟩
        have HX4 : Hid (w4.heap[w.heap.size]? = some (.cells #[.int .u32 (X.a.1 : Int), .int .u32 (X.a.2 : Int), .int .u32 (X.b.1 : Int), .int .u32 (X.b.2 : Int), .int .u16 (X.c.1 : Int), .int .u16 (X.c.2 : Int), .int .u16 (X.d.1 : Int), .int .u16 (X.d.2 : Int), .int .u8 (X.m.1 : Int), .int .u8 (X.m.2 : Int)] 31)) := blk_on HX3.out hb4
        have HY4 : Hid (w4.heap[w.heap.size + 1]? = some (.cells #[.int .u32 (Y.a.1 : Int), .int .u32 (Y.a.2 : Int), .int .u32 (Y.b.1 : Int), .int .u32 (Y.b.2 : Int), .int .u16 (Y.c.1 : Int), .int .u16 (Y.c.2 : Int), .int .u16 (Y.d.1 : Int), .int .u16 (Y.d.2 : Int), .int .u8 (Y.m.1 : Int), .int .u8 (Y.m.2 : Int)] 31)) := blk_on HY3.out hb4
        have hbl4 : Hid (Below w.heap.size w w4) := hbl3.out.trans (hb4.mono hbl3.out.size)
        clear hb4 hM c0 c1 c2 c3 c4 c5 c6 c7 c8 c9 d0 d1 d2 d3 d4 d5 d6 d7 d8 d9 HX3 HY3 hbl3
        have hl4 := blk_lt HY4.out
        have hl4' : w.heap.size < w4.heap.size := by omega
        have n4 : ¬ w.heap.size = w4.heap.size := by omega
        have n4' : ¬ w.heap.size + 1 = w4.heap.size := by omega
        obtain ⟨c0, c1, c2, c3, c4, c5, c6, c7, c8, c9⟩ := blk10 HX4.out
        obtain ⟨d0, d1, d2, d3, d4, d5, d6, d7, d8, d9⟩ := blk10 HY4.out
        go_wp2_with (fail)
        refine (hN2 _).mono ?_
        rintro e w5 ⟨rfl, hb5⟩
        have HX5 := blk_on (blk_alloc HX4.out _) hb5
        have HY5 := blk_on (blk_alloc HY4.out _) hb5
        have hbl5 : Hid (Below w.heap.size w w5) := (hbl4.out.alloc (by omega) _).trans (hb5.mono (by simp; omega))
        clear hb5 hN2 c0 c1 c2 c3 c4 c5 c6 c7 c8 c9 d0 d1 d2 d3 d4 d5 d6 d7 d8 d9
        obtain ⟨c0, c1, c2, c3, c4, c5, c6, c7, c8, c9⟩ := blk10 HX5
        obtain ⟨d0, d1, d2, d3, d4, d5, d6, d7, d8, d9⟩ := blk10 HY5
        clear HX5 HY5
        go_wp2_with (fail)
        refine (hL _).mono ?_
        rintro e w6 ⟨v6, rfl, hr6, hb6⟩
        have hblr : Hid (Below w.heap.size w w6) := hbl5.out.trans (hb6.mono hbl5.out.size)
        clear hb6 hL c0 c1 c2 c3 c4 c5 c6 c7 c8 c9 d0 d1 d2 d3 d4 d5 d6 d7 d8 d9
        obtain ⟨ad, cap, rfl, hcap, _⟩ := hr6.form
        obtain ⟨n, hn⟩ : ∃ n, n = l.length := ⟨_, rfl⟩
        rw [← hn] at hcap ⊢
        have HRow : Hid (RowX w6 0 (.slice ad n cap) l) := by rw [hn]; exact hr6.base (Nat.zero_le _)
        have HN : Hid (n = l.length) := hn
        have hnb : n ≤ 16 := by rw [hn]; exact HLEN.out
        clear hr6 hn
        go_wp2_with (fail)
        go_loopw [9, 10, 12] (fun xv yv iv wr => ∃ (k x y : Nat), k ≤ n ∧ iv = .int .i64 (k : Int) ∧ xv = .int .u64 (x : Int) ∧ yv = .int .u64 (y : Int) ∧ Hid (x = hiW (S0 + ((l.take k).map cntX).sum) ∧ y = loW (S0 + ((l.take k).map cntX).sum)) ∧ Hid (RowX wr 0 (.slice ad n cap) l) ∧ Hid (Below w.heap.size w wr)) (fun _ _ iv _ => n - (intOf iv).toNat)
        case atStart => exact ⟨0, x0, y0, Nat.zero_le _, rfl, rfl, rfl, by show _ = _ ∧ _ = _; simpa using HS0.out, HRow.out, hblr.out⟩
        case round =>
          obtain ⟨k, x, y, hk, rfl, rfl, rfl, hxy, hrow, hbr⟩ := hrel
          by_cases hltn : k < n
          · have hlt : k < l.length := by rw [← HN.out]; exact hltn
            have hat := hrow.out.at
            obtain ⟨g, hg, cc⟩ := hat (by omega)
            obtain rfl := hg
            obtain ⟨p, hp⟩ : ∃ p, p = l[k] := ⟨_, rfl⟩
            have x0 : wr.cell? ⟨g, k * 10, none⟩ = some (.int .u32 (p.a.1 : Int)) := by rw [hp]; exact cc k hlt 0 (by decide)
            have x1 : wr.cell? ⟨g, k * 10 + 1, none⟩ = some (.int .u32 (p.a.2 : Int)) := by rw [hp]; exact cc k hlt 1 (by decide)
            have x2 : wr.cell? ⟨g, k * 10 + 2, none⟩ = some (.int .u32 (p.b.1 : Int)) := by rw [hp]; exact cc k hlt 2 (by decide)
            have x3 : wr.cell? ⟨g, k * 10 + 3, none⟩ = some (.int .u32 (p.b.2 : Int)) := by rw [hp]; exact cc k hlt 3 (by decide)
            have x4 : wr.cell? ⟨g, k * 10 + 4, none⟩ = some (.int .u16 (p.c.1 : Int)) := by rw [hp]; exact cc k hlt 4 (by decide)
            have x5 : wr.cell? ⟨g, k * 10 + 5, none⟩ = some (.int .u16 (p.c.2 : Int)) := by rw [hp]; exact cc k hlt 5 (by decide)
            have x6 : wr.cell? ⟨g, k * 10 + 6, none⟩ = some (.int .u16 (p.d.1 : Int)) := by rw [hp]; exact cc k hlt 6 (by decide)
            have x7 : wr.cell? ⟨g, k * 10 + 7, none⟩ = some (.int .u16 (p.d.2 : Int)) := by rw [hp]; exact cc k hlt 7 (by decide)
            have x8 : wr.cell? ⟨g, k * 10 + 8, none⟩ = some (.int .u8 (p.m.1 : Int)) := by rw [hp]; exact cc k hlt 8 (by decide)
            have x9 : wr.cell? ⟨g, k * 10 + 9, none⟩ = some (.int .u8 (p.m.2 : Int)) := by rw [hp]; exact cc k hlt 9 (by decide)
            have hpb : Hid (BdX p) := by show BdX p; rw [hp]; exact HBL.out _ (List.getElem_mem hlt)
            have hcn := fun W => countXC p W hpb.out
            have hsum : ((l.take (k + 1)).map cntX).sum = ((l.take k).map cntX).sum + cntX p := by rw [List.take_succ_eq_append_getElem hlt, List.map_append, List.sum_append, hp]; simp
            have hle : S0 + ((l.take k).map cntX).sum + cntX p ≤ 20282409603651670423947251286016 := by
              have := HTOT.out (k + 1) (by omega)
              omega
            obtain ⟨x', y', e1, e2, e3⟩ := carry (S := S0 + ((l.take k).map cntX).sum) (c := cntX p) hle
            rw [Nat.add_assoc, ← hsum] at e1
            rw [← hxy.out.2] at e2
            rw [← hxy.out.1] at e3
            have HX' : Hid (x' = hiW (S0 + ((l.take (k + 1)).map cntX).sum) ∧ y' = loW (S0 + ((l.take (k + 1)).map cntX).sum)) := e1
            generalize hiW (cntX p) = P at *
            generalize loW (cntX p) = R at *
            have hz := hbr.out.size
            clear cc hat hlt hsum hle hp hxy e1
            have hlt' : (k : Int) < (n : Int) := by omega
            have hk0 : (0 : Int) ≤ (k : Int) := by omega
            go_wp2_with (fail)
            refine (hcn _).mono ?_
            rintro e w8 ⟨rfl, hb8⟩
            have HR8 : Hid (RowX w8 0 (.slice (some ⟨g, 0, none⟩) n cap) l) := hrow.out.on hb8
            have HB8 : Hid (Below w.heap.size w w8) := hbr.out.trans (hb8.mono hz)
            clear hb8 hcn x0 x1 x2 x3 x4 x5 x6 x7 x8 x9 hrow hbr
            have hy1 : IntKind.u64.wrap ((y : Int) + (R : Int)) = (y' : Int) := e2
            rcases e3 with ⟨q1, q2⟩ | ⟨q1, q2⟩
            · have hd : decide (y' < R) = false := q1
              have hx1 : IntKind.u64.wrap ((x : Int) + (P : Int)) = (x' : Int) := q2
              clear e2 q1 q2
              go_wp2_with (fail)
              go_roundw
              case rel => exact ⟨k + 1, x', y', by omega, by go_num, by first | rfl | (rw [hx1]), by first | rfl | (rw [hy1]), HX'.out, HR8.out, HB8.out⟩
              case measure => simp [intOf]; omega
            · have hd : decide (y' < R) = true := q1
              obtain ⟨t, q3, q4⟩ := q2
              have hx1 : IntKind.u64.wrap ((x : Int) + (P : Int)) = (t : Int) := q3
              have hx2 : IntKind.u64.wrap ((t : Int) + 1) = (x' : Int) := q4
              clear e2 q1 q3 q4
              go_wp2_with (fail)
              go_roundw
              case rel => exact ⟨k + 1, x', y', by omega, by go_num, by first | rfl | (rw [hx1, hx2]), by first | rfl | (rw [hy1]), HX'.out, HR8.out, HB8.out⟩
              case measure => simp [intOf]; omega
          · obtain rfl : k = n := by omega
            have HF : Hid (x = H ∧ y = L) := by
              have := hxy.out
              rw [HN.out, List.take_length, HTX.out] at this
              exact ⟨this.1.trans HHL.out.1.symm, this.2.trans HHL.out.2.symm⟩
            obtain ⟨rfl, rfl⟩ := HF.out
            clear hxy
            go_wp2_with (fail)
            refine (hA _).mono ?_
            rintro e w9 ⟨rfl, hb9⟩
            have HB9 : Hid (Below w.heap.size w w9) := hbr.out.trans (hb9.mono hbr.out.size)
            clear hb9
            go_wp2
            go_ret
            exact ⟨rfl, HB9.out⟩

set_option maxRecDepth 100000 in
theorem boxTells_lifted (os : Os) (started : os.Started) (H : Type) (enc : TypeId × Value → H) :
    ReturnsInHanded {} Try.checked os 4 .any (Rows.boxTellsSpec.pre6 enc Try.prog Try.f4 Rows.boxTellsRow.domain false) (Rows.boxTellsSpec.post enc Try.prog Try.f4 false true false false) := by
  refine returnsInHanded_of_change (C := Try.checked) own started (by kernel_rfl) Try.func4
    (ChangeSpec.witness6 (enc := enc) (C := Try.checked) false ⟨#[], #[.agg #[.int .u32 0, .int .u32 0, .int .u32 0, .int .u32 0, .int .u16 0, .int .u16 0, .int .u16 0, .int .u16 0, .int .u8 0, .int .u8 0], .agg #[.int .u32 0, .int .u32 0, .int .u32 0, .int .u32 0, .int .u16 0, .int .u16 0, .int .u16 0, .int .u16 0, .int .u8 0, .int .u8 0]], []⟩ 8 (by kernel_rfl) (by kernel_rfl) (by kernel_rfl) (by kernel_rfl)) ?_
  intro W base args ds gs before hval0 hW hcnd _
  have hval : ∀ (j : Nat) t v, Try.f4.params[j]? = some t → args[j]? = some v → Value.okWide Try.prog W .any base t v := hval0
  have hW' := hW
  obtain ⟨p, q, hA0, hV, rfl, hfz, hnd⟩ := hW
  have hA : DataW.TrodAll enc Try.prog W 0 (fun _ => true) true Try.f4.params.toList args.toList ds p := hA0
  rw [Try.params4] at hA hval
  obtain ⟨v0, vs0, d0, ds0, p0, q0, hargs, rfl, rfl, h0, r0⟩ := trodAll_cons hA
  obtain ⟨v1, vs1, d1, ds1, p1, q1, rfl, rfl, rfl, h1, r1⟩ := trodAll_cons r0
  obtain ⟨rfl, rfl, rfl⟩ := trodAll_nil r1
  obtain rfl : args = #[v0, v1] := by cases args; simp_all
  obtain ⟨rfl, rfl⟩ := trodVars_none hV
  obtain ⟨g0, rfl, rfl, rfl, o0⟩ := open_bx (hval 0 31 v0 rfl rfl) h0
  obtain ⟨g1, rfl, rfl, rfl, o1⟩ := open_bx (hval 1 31 v1 rfl rfl) h1
  clear hA0 hval0
  simp only [List.append_nil] at hW'
  refine (boxTells_walk g0 o0 g1 o1 W ).mono fun e W' ⟨he, bel⟩ => ?_
  subst he
  exact ⟨_, rfl, _, _, _, [], _, [], hW', trodAll_mk1 (shut_bool Try.underlying4 _), (trodAll_cons_mk (shut_bx o0) (trodAll_cons_mk (shut_bx o1) trodAll_mk0)), rfl, bel.frame _, fun h => by cases h⟩

/-- The given statement. -/
theorem boxTells_holds : Rows.BoxTellsSaid :=
  OpenClaim.holds_of_wide 4 Try.f4 rfl rfl rfl rfl rfl rfl rfl ⟨rfl, rfl, rfl, rfl, rfl⟩ rfl rfl rfl rfl rfl (by kernel_rfl) Try.func4 (by kernel_rfl)
    (of_decide_eq_true (by kernel_rfl)) (by unfold Func.isWrapper; first | (rw [if_pos (by decide +kernel)]; kernel_rfl) | (rw [if_neg (by decide +kernel)]; exact ⟨rfl, rfl⟩))
    (fun os started H enc _ => boxTells_lifted os started H enc)
#print axioms boxTells_holds
end Go.Proofs.Ythggiblkehcfaab
