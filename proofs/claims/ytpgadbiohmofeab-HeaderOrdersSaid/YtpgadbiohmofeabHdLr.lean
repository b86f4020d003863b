/-
  HeaderOrders, out of what the functions of header hand back. Written by tools/mkHdLr.py.
-/
import Derived.Test.YtpgadbiohmofeabHdAw
import Derived.Test.YtpgadbiohmofeabHdPlO
namespace Go.Proofs.Ytpgadbiohmofeab
open Go.RowKit
set_option linter.unusedVariables false
set_option linter.unusedSimpArgs false

theorem eqH_no {a b : Hd} (h : a ≠ b) (w : World) : Sem.run Try.prog (binOp .eql 25 (.agg #[.int .u32 (a.s : Int), .int .u32 (a.d : Int), .int .u16 (a.p : Int), .int .u16 (a.q : Int), .int .u8 (a.r : Int)]) (.agg #[.int .u32 (b.s : Int), .int .u32 (b.d : Int), .int .u16 (b.p : Int), .int .u16 (b.q : Int), .int .u8 (b.r : Int)])) w = .ok (.bool false) w := by
  rcases first_field h with h | ⟨e1, h⟩ | ⟨e1, e2, h⟩ | ⟨e1, e2, e3, h⟩ | ⟨e1, e2, e3, e4, h⟩
  all_goals (simp [go_sem]; intros; omega)
set_option maxRecDepth 20000 in
set_option maxHeartbeats 4000000 in
theorem orders_eq (hP : PackC) (hC : CmpC) (hD : DifC) (hA : ∀ w : World, Calls Try.prog 8 #[] w fun e w' => e = .returned (.bool true) ∧ Below w.heap.size w w') (a : Hd) (oa : OkH a) (w : World) :
    Calls Try.prog 3 #[.agg #[.int .u32 (a.s : Int), .int .u32 (a.d : Int), .int .u16 (a.p : Int), .int .u16 (a.q : Int), .int .u8 (a.r : Int)], .agg #[.int .u32 (a.s : Int), .int .u32 (a.d : Int), .int .u16 (a.p : Int), .int .u16 (a.q : Int), .int .u8 (a.r : Int)]] w fun e w' => e = .returned (.bool true) ∧ Below w.heap.size w w' := by
  have k1 := fun W => hP a W oa
  have k2 := k1
  have c1 := fun W => hC a a W oa oa
  have c2 := fun W => hD a a W oa oa
  rw [cmp_self] at c1
  rw [difH_self] at c2
  have HLex : Hid (∀ k, k ≤ 13 → (k = 13 ∨ lexC (bytesH a) (bytesH a) k ≠ 0) → lexC (bytesH a) (bytesH a) k = 0) := fun k h1 h2 => by rw [lexC_13 oa oa h1 h2, cmp_self]
  clear hP hC hD
  go_enter Try.func3, Try.ntmps3
  go_wp2_with (fail)
  refine (k1 _).mono ?_
  rintro e w1 ⟨vp, rfl, rp, hb1⟩
  have hz1 := hb1.size
  (try simp at hz1)
  have p_1 : Hid (RowB w1 w.heap.size vp (bytesH a)) := rp.base (by first | omega | (simp; done) | (simp; omega))
  clear rp
  have a0_1 : w1.cell? ⟨w.heap.size, 0, none⟩ = some (.int .u32 (a.s : Int)) := cell_on hb1 (show ((w.alloc (.cells #[.int .u32 (a.s : Int), .int .u32 (a.d : Int), .int .u16 (a.p : Int), .int .u16 (a.q : Int), .int .u8 (a.r : Int)] 25)).alloc (.cells #[.int .u32 (a.s : Int), .int .u32 (a.d : Int), .int .u16 (a.p : Int), .int .u16 (a.q : Int), .int .u8 (a.r : Int)] 25)).cell? ⟨w.heap.size, 0, none⟩ = some (.int .u32 (a.s : Int)) from by simp [go_sem])
  have a1_1 : w1.cell? ⟨w.heap.size, 1, none⟩ = some (.int .u32 (a.d : Int)) := cell_on hb1 (show ((w.alloc (.cells #[.int .u32 (a.s : Int), .int .u32 (a.d : Int), .int .u16 (a.p : Int), .int .u16 (a.q : Int), .int .u8 (a.r : Int)] 25)).alloc (.cells #[.int .u32 (a.s : Int), .int .u32 (a.d : Int), .int .u16 (a.p : Int), .int .u16 (a.q : Int), .int .u8 (a.r : Int)] 25)).cell? ⟨w.heap.size, 1, none⟩ = some (.int .u32 (a.d : Int)) from by simp [go_sem])
  have a2_1 : w1.cell? ⟨w.heap.size, 2, none⟩ = some (.int .u16 (a.p : Int)) := cell_on hb1 (show ((w.alloc (.cells #[.int .u32 (a.s : Int), .int .u32 (a.d : Int), .int .u16 (a.p : Int), .int .u16 (a.q : Int), .int .u8 (a.r : Int)] 25)).alloc (.cells #[.int .u32 (a.s : Int), .int .u32 (a.d : Int), .int .u16 (a.p : Int), .int .u16 (a.q : Int), .int .u8 (a.r : Int)] 25)).cell? ⟨w.heap.size, 2, none⟩ = some (.int .u16 (a.p : Int)) from by simp [go_sem])
  have a3_1 : w1.cell? ⟨w.heap.size, 3, none⟩ = some (.int .u16 (a.q : Int)) := cell_on hb1 (show ((w.alloc (.cells #[.int .u32 (a.s : Int), .int .u32 (a.d : Int), .int .u16 (a.p : Int), .int .u16 (a.q : Int), .int .u8 (a.r : Int)] 25)).alloc (.cells #[.int .u32 (a.s : Int), .int .u32 (a.d : Int), .int .u16 (a.p : Int), .int .u16 (a.q : Int), .int .u8 (a.r : Int)] 25)).cell? ⟨w.heap.size, 3, none⟩ = some (.int .u16 (a.q : Int)) from by simp [go_sem])
  have a4_1 : w1.cell? ⟨w.heap.size, 4, none⟩ = some (.int .u8 (a.r : Int)) := cell_on hb1 (show ((w.alloc (.cells #[.int .u32 (a.s : Int), .int .u32 (a.d : Int), .int .u16 (a.p : Int), .int .u16 (a.q : Int), .int .u8 (a.r : Int)] 25)).alloc (.cells #[.int .u32 (a.s : Int), .int .u32 (a.d : Int), .int .u16 (a.p : Int), .int .u16 (a.q : Int), .int .u8 (a.r : Int)] 25)).cell? ⟨w.heap.size, 4, none⟩ = some (.int .u8 (a.r : Int)) from by simp [go_sem])
  have b0_1 : w1.cell? ⟨w.heap.size + 1, 0, none⟩ = some (.int .u32 (a.s : Int)) := cell_on hb1 (show ((w.alloc (.cells #[.int .u32 (a.s : Int), .int .u32 (a.d : Int), .int .u16 (a.p : Int), .int .u16 (a.q : Int), .int .u8 (a.r : Int)] 25)).alloc (.cells #[.int .u32 (a.s : Int), .int .u32 (a.d : Int), .int .u16 (a.p : Int), .int .u16 (a.q : Int), .int .u8 (a.r : Int)] 25)).cell? ⟨w.heap.size + 1, 0, none⟩ = some (.int .u32 (a.s : Int)) from by simp [go_sem])
  have b1_1 : w1.cell? ⟨w.heap.size + 1, 1, none⟩ = some (.int .u32 (a.d : Int)) := cell_on hb1 (show ((w.alloc (.cells #[.int .u32 (a.s : Int), .int .u32 (a.d : Int), .int .u16 (a.p : Int), .int .u16 (a.q : Int), .int .u8 (a.r : Int)] 25)).alloc (.cells #[.int .u32 (a.s : Int), .int .u32 (a.d : Int), .int .u16 (a.p : Int), .int .u16 (a.q : Int), .int .u8 (a.r : Int)] 25)).cell? ⟨w.heap.size + 1, 1, none⟩ = some (.int .u32 (a.d : Int)) from by simp [go_sem])
  have b2_1 : w1.cell? ⟨w.heap.size + 1, 2, none⟩ = some (.int .u16 (a.p : Int)) := cell_on hb1 (show ((w.alloc (.cells #[.int .u32 (a.s : Int), .int .u32 (a.d : Int), .int .u16 (a.p : Int), .int .u16 (a.q : Int), .int .u8 (a.r : Int)] 25)).alloc (.cells #[.int .u32 (a.s : Int), .int .u32 (a.d : Int), .int .u16 (a.p : Int), .int .u16 (a.q : Int), .int .u8 (a.r : Int)] 25)).cell? ⟨w.heap.size + 1, 2, none⟩ = some (.int .u16 (a.p : Int)) from by simp [go_sem])
  have b3_1 : w1.cell? ⟨w.heap.size + 1, 3, none⟩ = some (.int .u16 (a.q : Int)) := cell_on hb1 (show ((w.alloc (.cells #[.int .u32 (a.s : Int), .int .u32 (a.d : Int), .int .u16 (a.p : Int), .int .u16 (a.q : Int), .int .u8 (a.r : Int)] 25)).alloc (.cells #[.int .u32 (a.s : Int), .int .u32 (a.d : Int), .int .u16 (a.p : Int), .int .u16 (a.q : Int), .int .u8 (a.r : Int)] 25)).cell? ⟨w.heap.size + 1, 3, none⟩ = some (.int .u16 (a.q : Int)) from by simp [go_sem])
  have b4_1 : w1.cell? ⟨w.heap.size + 1, 4, none⟩ = some (.int .u8 (a.r : Int)) := cell_on hb1 (show ((w.alloc (.cells #[.int .u32 (a.s : Int), .int .u32 (a.d : Int), .int .u16 (a.p : Int), .int .u16 (a.q : Int), .int .u8 (a.r : Int)] 25)).alloc (.cells #[.int .u32 (a.s : Int), .int .u32 (a.d : Int), .int .u16 (a.p : Int), .int .u16 (a.q : Int), .int .u8 (a.r : Int)] 25)).cell? ⟨w.heap.size + 1, 4, none⟩ = some (.int .u8 (a.r : Int)) from by simp [go_sem])
  have hg1_0 : w.heap.size < w1.heap.size := by omega
  have hg1_1 : w.heap.size + 1 < w1.heap.size := by omega
  have hl1 : w.heap.size ≤ w1.heap.size := by omega
  have hw1 : Hid (Below w.heap.size w w1) := (((Below.refl _ _).alloc (by first | omega | (simp; done) | (simp; omega)) _).alloc (by first | omega | (simp; done) | (simp; omega)) _).trans (hb1.mono (by first | omega | (simp; done) | (simp; omega)))
  clear hb1
  go_wp2_with (fail)
  refine (k2 _).mono ?_
  rintro e w2 ⟨vq, rfl, rq, hb2⟩
  have hz2 := hb2.size
  (try simp at hz2)
  have q_2 : Hid (RowB w2 w.heap.size vq (bytesH a)) := rq.base (by first | omega | (simp; done) | (simp; omega))
  clear rq
  have a0_2 : w2.cell? ⟨w.heap.size, 0, none⟩ = some (.int .u32 (a.s : Int)) := cell_on hb2 a0_1
  have a1_2 : w2.cell? ⟨w.heap.size, 1, none⟩ = some (.int .u32 (a.d : Int)) := cell_on hb2 a1_1
  have a2_2 : w2.cell? ⟨w.heap.size, 2, none⟩ = some (.int .u16 (a.p : Int)) := cell_on hb2 a2_1
  have a3_2 : w2.cell? ⟨w.heap.size, 3, none⟩ = some (.int .u16 (a.q : Int)) := cell_on hb2 a3_1
  have a4_2 : w2.cell? ⟨w.heap.size, 4, none⟩ = some (.int .u8 (a.r : Int)) := cell_on hb2 a4_1
  have b0_2 : w2.cell? ⟨w.heap.size + 1, 0, none⟩ = some (.int .u32 (a.s : Int)) := cell_on hb2 b0_1
  have b1_2 : w2.cell? ⟨w.heap.size + 1, 1, none⟩ = some (.int .u32 (a.d : Int)) := cell_on hb2 b1_1
  have b2_2 : w2.cell? ⟨w.heap.size + 1, 2, none⟩ = some (.int .u16 (a.p : Int)) := cell_on hb2 b2_1
  have b3_2 : w2.cell? ⟨w.heap.size + 1, 3, none⟩ = some (.int .u16 (a.q : Int)) := cell_on hb2 b3_1
  have b4_2 : w2.cell? ⟨w.heap.size + 1, 4, none⟩ = some (.int .u8 (a.r : Int)) := cell_on hb2 b4_1
  have p_2 : Hid (RowB w2 w.heap.size vp (bytesH a)) := RowB.on p_1.out hb2
  have hg2_0 : w.heap.size < w2.heap.size := by omega
  have hg2_1 : w.heap.size + 1 < w2.heap.size := by omega
  have hl2 : w.heap.size ≤ w2.heap.size := by omega
  have hw2 : Hid (Below w.heap.size w w2) := hw1.out.trans (hb2.mono (by first | omega | (simp; done) | (simp; omega)))
  clear hb2 a0_1 a1_1 a2_1 a3_1 a4_1 b0_1 b1_1 b2_1 b3_1 b4_1 p_1 hg1_0 hg1_1 hw1
  obtain ⟨ad1, cap1, hv1, hca1, hat1⟩ := p_2.out.form
  rw [bytesH_length] at hv1 hca1
  subst hv1
  obtain ⟨g1, rfl, hgl1, hgu1, hbc1⟩ := hat1 (by rw [bytesH_length]; omega)
  have HX1 : Hid (∀ k (hk : k < 13), w2.cell? ⟨g1, k, none⟩ = some (.int .u8 ((bytesH a).getD k 0 : Int))) := fun k hk => by rw [hbc1 k (by rw [bytesH_length]; omega), List.getD_eq_getElem?_getD, List.getElem?_eq_getElem (by rw [bytesH_length]; omega)]; rfl
  clear hat1 hbc1 p_2
  obtain ⟨ad2, cap2, hv2, hca2, hat2⟩ := q_2.out.form
  rw [bytesH_length] at hv2 hca2
  subst hv2
  obtain ⟨g2, rfl, hgl2, hgu2, hbc2⟩ := hat2 (by rw [bytesH_length]; omega)
  have HX2 : Hid (∀ k (hk : k < 13), w2.cell? ⟨g2, k, none⟩ = some (.int .u8 ((bytesH a).getD k 0 : Int))) := fun k hk => by rw [hbc2 k (by rw [bytesH_length]; omega), List.getD_eq_getElem?_getD, List.getElem?_eq_getElem (by rw [bytesH_length]; omega)]; rfl
  clear hat2 hbc2 q_2
  go_wp2_with (fail)
  obtain ⟨W, hW⟩ : ∃ W, W = w2 := ⟨_, rfl⟩
  rw [← hW] at HX1 HX2 hw2
  have a0_W : W.cell? ⟨w.heap.size, 0, none⟩ = some (.int .u32 (a.s : Int)) := by rw [hW]; exact a0_2
  have a1_W : W.cell? ⟨w.heap.size, 1, none⟩ = some (.int .u32 (a.d : Int)) := by rw [hW]; exact a1_2
  have a2_W : W.cell? ⟨w.heap.size, 2, none⟩ = some (.int .u16 (a.p : Int)) := by rw [hW]; exact a2_2
  have a3_W : W.cell? ⟨w.heap.size, 3, none⟩ = some (.int .u16 (a.q : Int)) := by rw [hW]; exact a3_2
  have a4_W : W.cell? ⟨w.heap.size, 4, none⟩ = some (.int .u8 (a.r : Int)) := by rw [hW]; exact a4_2
  have b0_W : W.cell? ⟨w.heap.size + 1, 0, none⟩ = some (.int .u32 (a.s : Int)) := by rw [hW]; exact b0_2
  have b1_W : W.cell? ⟨w.heap.size + 1, 1, none⟩ = some (.int .u32 (a.d : Int)) := by rw [hW]; exact b1_2
  have b2_W : W.cell? ⟨w.heap.size + 1, 2, none⟩ = some (.int .u16 (a.p : Int)) := by rw [hW]; exact b2_2
  have b3_W : W.cell? ⟨w.heap.size + 1, 3, none⟩ = some (.int .u16 (a.q : Int)) := by rw [hW]; exact b3_2
  have b4_W : W.cell? ⟨w.heap.size + 1, 4, none⟩ = some (.int .u8 (a.r : Int)) := by rw [hW]; exact b4_2
  have HWw : Hid (Below w.heap.size w W) := hw2.out
  rw [← hW]
  clear hW hgu1 hgu2 hw2 a0_2 a1_2 a2_2 a3_2 a4_2 b0_2 b1_2 b2_2 b3_2 b4_2
  go_loopw [7, 8] (fun cv iv wr => ∃ k d : Nat, k ≤ 13 ∧ iv = .int .i64 (k : Int) ∧ cv = .int .i64 (lexC (bytesH a) (bytesH a) k) ∧ wr = W.drewN d) (fun _ iv _ => 13 - (intOf iv).toNat)
  case atStart => exact ⟨0, 0, by omega, rfl, rfl, rfl⟩
  case round =>
    obtain ⟨k, d, hk, rfl, rfl, rfl⟩ := hrel
    by_cases hlt : k < 13
    · have hlt' : (k : Int) < 13 := by omega
      have hk0 : (0 : Int) ≤ (k : Int) := by omega
      by_cases hc0 : lexC (bytesH a) (bytesH a) k = 0
      · have x0 := HX1.out k hlt
        have y0 := HX2.out k hlt
        have HS : Hid (lexC (bytesH a) (bytesH a) (k + 1) = if (bytesH a).getD k 0 < (bytesH a).getD k 0 then -1 else if (bytesH a).getD k 0 < (bytesH a).getD k 0 then 1 else 0) := by
          show (if lexC (bytesH a) (bytesH a) k ≠ 0 then _ else _) = _
          rw [if_neg (by simpa using hc0)]
        rw [hc0]
        generalize (bytesH a).getD k 0 = X at *
        clear hc0
        rw [if_neg (by omega), if_neg (by omega)] at HS
        have hn : ¬ (X : Int) < (X : Int) := by omega
        go_wp2
        go_quiet (fail)
        go_wp2
        go_quiet (fail)
        go_wp2
        go_roundw
        case rel => exact ⟨k + 1, _, by omega, by go_num, by rw [HS.out], rfl⟩
        case measure => simp [intOf]; omega
      · have hE := HLex.out k (by omega) (.inr hc0)
        exact absurd hE hc0
    · obtain rfl : k = 13 := by omega
      have hE := HLex.out 13 (by omega) (.inl rfl)
      rw [hE]
      clear hE HX1 HX2
      obtain ⟨wx, hwx⟩ : ∃ wx, wx = W.drewN d := ⟨_, rfl⟩
      rw [← hwx]
      have a0_x : wx.cell? ⟨w.heap.size, 0, none⟩ = some (.int .u32 (a.s : Int)) := by rw [hwx]; simpa using a0_W
      have a1_x : wx.cell? ⟨w.heap.size, 1, none⟩ = some (.int .u32 (a.d : Int)) := by rw [hwx]; simpa using a1_W
      have a2_x : wx.cell? ⟨w.heap.size, 2, none⟩ = some (.int .u16 (a.p : Int)) := by rw [hwx]; simpa using a2_W
      have a3_x : wx.cell? ⟨w.heap.size, 3, none⟩ = some (.int .u16 (a.q : Int)) := by rw [hwx]; simpa using a3_W
      have a4_x : wx.cell? ⟨w.heap.size, 4, none⟩ = some (.int .u8 (a.r : Int)) := by rw [hwx]; simpa using a4_W
      have b0_x : wx.cell? ⟨w.heap.size + 1, 0, none⟩ = some (.int .u32 (a.s : Int)) := by rw [hwx]; simpa using b0_W
      have b1_x : wx.cell? ⟨w.heap.size + 1, 1, none⟩ = some (.int .u32 (a.d : Int)) := by rw [hwx]; simpa using b1_W
      have b2_x : wx.cell? ⟨w.heap.size + 1, 2, none⟩ = some (.int .u16 (a.p : Int)) := by rw [hwx]; simpa using b2_W
      have b3_x : wx.cell? ⟨w.heap.size + 1, 3, none⟩ = some (.int .u16 (a.q : Int)) := by rw [hwx]; simpa using b3_W
      have b4_x : wx.cell? ⟨w.heap.size + 1, 4, none⟩ = some (.int .u8 (a.r : Int)) := by rw [hwx]; simpa using b4_W
      have hwr : Hid (Below w.heap.size w wx) := by rw [hwx]; exact bel_drewN HWw.out d
      have hlr : w.heap.size ≤ wx.heap.size := hwr.out.size
      have hgx_0 : w.heap.size < wx.heap.size := World.block_lt_of_cell? _ _ a0_x
      have hgx_1 : w.heap.size + 1 < wx.heap.size := World.block_lt_of_cell? _ _ b0_x
      clear hwx HWw a0_W a1_W a2_W a3_W a4_W b0_W b1_W b2_W b3_W b4_W
      go_wp2_with (fail)
      refine (c1 _).mono ?_
      rintro e w201 ⟨rfl, hb201⟩
      have hz201 := hb201.size
      (try simp at hz201)
      have a0_201 : w201.cell? ⟨w.heap.size, 0, none⟩ = some (.int .u32 (a.s : Int)) := cell_on hb201 a0_x
      have a1_201 : w201.cell? ⟨w.heap.size, 1, none⟩ = some (.int .u32 (a.d : Int)) := cell_on hb201 a1_x
      have a2_201 : w201.cell? ⟨w.heap.size, 2, none⟩ = some (.int .u16 (a.p : Int)) := cell_on hb201 a2_x
      have a3_201 : w201.cell? ⟨w.heap.size, 3, none⟩ = some (.int .u16 (a.q : Int)) := cell_on hb201 a3_x
      have a4_201 : w201.cell? ⟨w.heap.size, 4, none⟩ = some (.int .u8 (a.r : Int)) := cell_on hb201 a4_x
      have b0_201 : w201.cell? ⟨w.heap.size + 1, 0, none⟩ = some (.int .u32 (a.s : Int)) := cell_on hb201 b0_x
      have b1_201 : w201.cell? ⟨w.heap.size + 1, 1, none⟩ = some (.int .u32 (a.d : Int)) := cell_on hb201 b1_x
      have b2_201 : w201.cell? ⟨w.heap.size + 1, 2, none⟩ = some (.int .u16 (a.p : Int)) := cell_on hb201 b2_x
      have b3_201 : w201.cell? ⟨w.heap.size + 1, 3, none⟩ = some (.int .u16 (a.q : Int)) := cell_on hb201 b3_x
      have b4_201 : w201.cell? ⟨w.heap.size + 1, 4, none⟩ = some (.int .u8 (a.r : Int)) := cell_on hb201 b4_x
      have hg201_0 : w.heap.size < w201.heap.size := by omega
      have hg201_1 : w.heap.size + 1 < w201.heap.size := by omega
      have hl201 : w.heap.size ≤ w201.heap.size := by omega
      have hw201 : Hid (Below w.heap.size w w201) := hwr.out.trans (hb201.mono (by first | omega | (simp; done) | (simp; omega)))
      clear hb201 a0_x a1_x a2_x a3_x a4_x b0_x b1_x b2_x b3_x b4_x hgx_0 hgx_1 hwr
      go_wp2_with (fail)
      refine (c2 _).mono ?_
      rintro e w202 ⟨rfl, hb202⟩
      have hz202 := hb202.size
      (try simp at hz202)
      have a0_202 : w202.cell? ⟨w.heap.size, 0, none⟩ = some (.int .u32 (a.s : Int)) := cell_on hb202 a0_201
      have a1_202 : w202.cell? ⟨w.heap.size, 1, none⟩ = some (.int .u32 (a.d : Int)) := cell_on hb202 a1_201
      have a2_202 : w202.cell? ⟨w.heap.size, 2, none⟩ = some (.int .u16 (a.p : Int)) := cell_on hb202 a2_201
      have a3_202 : w202.cell? ⟨w.heap.size, 3, none⟩ = some (.int .u16 (a.q : Int)) := cell_on hb202 a3_201
      have a4_202 : w202.cell? ⟨w.heap.size, 4, none⟩ = some (.int .u8 (a.r : Int)) := cell_on hb202 a4_201
      have b0_202 : w202.cell? ⟨w.heap.size + 1, 0, none⟩ = some (.int .u32 (a.s : Int)) := cell_on hb202 b0_201
      have b1_202 : w202.cell? ⟨w.heap.size + 1, 1, none⟩ = some (.int .u32 (a.d : Int)) := cell_on hb202 b1_201
      have b2_202 : w202.cell? ⟨w.heap.size + 1, 2, none⟩ = some (.int .u16 (a.p : Int)) := cell_on hb202 b2_201
      have b3_202 : w202.cell? ⟨w.heap.size + 1, 3, none⟩ = some (.int .u16 (a.q : Int)) := cell_on hb202 b3_201
      have b4_202 : w202.cell? ⟨w.heap.size + 1, 4, none⟩ = some (.int .u8 (a.r : Int)) := cell_on hb202 b4_201
      have hg202_0 : w.heap.size < w202.heap.size := by omega
      have hg202_1 : w.heap.size + 1 < w202.heap.size := by omega
      have hl202 : w.heap.size ≤ w202.heap.size := by omega
      have hw202 : Hid (Below w.heap.size w w202) := hw201.out.trans (hb202.mono (by first | omega | (simp; done) | (simp; omega)))
      clear hb202 a0_201 a1_201 a2_201 a3_201 a4_201 b0_201 b1_201 b2_201 b3_201 b4_201 hg201_0 hg201_1 hw201
      go_wp2_with (fail)
      refine (hA _).mono ?_
      rintro e w203 ⟨rfl, hb203⟩
      have hz203 := hb203.size
      (try simp at hz203)
      have a0_203 : w203.cell? ⟨w.heap.size, 0, none⟩ = some (.int .u32 (a.s : Int)) := cell_on hb203 a0_202
      have a1_203 : w203.cell? ⟨w.heap.size, 1, none⟩ = some (.int .u32 (a.d : Int)) := cell_on hb203 a1_202
      have a2_203 : w203.cell? ⟨w.heap.size, 2, none⟩ = some (.int .u16 (a.p : Int)) := cell_on hb203 a2_202
      have a3_203 : w203.cell? ⟨w.heap.size, 3, none⟩ = some (.int .u16 (a.q : Int)) := cell_on hb203 a3_202
      have a4_203 : w203.cell? ⟨w.heap.size, 4, none⟩ = some (.int .u8 (a.r : Int)) := cell_on hb203 a4_202
      have b0_203 : w203.cell? ⟨w.heap.size + 1, 0, none⟩ = some (.int .u32 (a.s : Int)) := cell_on hb203 b0_202
      have b1_203 : w203.cell? ⟨w.heap.size + 1, 1, none⟩ = some (.int .u32 (a.d : Int)) := cell_on hb203 b1_202
      have b2_203 : w203.cell? ⟨w.heap.size + 1, 2, none⟩ = some (.int .u16 (a.p : Int)) := cell_on hb203 b2_202
      have b3_203 : w203.cell? ⟨w.heap.size + 1, 3, none⟩ = some (.int .u16 (a.q : Int)) := cell_on hb203 b3_202
      have b4_203 : w203.cell? ⟨w.heap.size + 1, 4, none⟩ = some (.int .u8 (a.r : Int)) := cell_on hb203 b4_202
      have hg203_0 : w.heap.size < w203.heap.size := by omega
      have hg203_1 : w.heap.size + 1 < w203.heap.size := by omega
      have hl203 : w.heap.size ≤ w203.heap.size := by omega
      have hw203 : Hid (Below w.heap.size w w203) := hw202.out.trans (hb203.mono (by first | omega | (simp; done) | (simp; omega)))
      clear hb203 a0_202 a1_202 a2_202 a3_202 a4_202 b0_202 b1_202 b2_202 b3_202 b4_202 hg202_0 hg202_1 hw202
      go_wp2_with (fail)
      go_ret
      exact ⟨ret_same (by simp), hw203.out⟩
set_option maxRecDepth 20000 in
set_option maxHeartbeats 8000000 in
theorem orders_ne (hP : PackC) (hBit : BitC) (hTrn : TrnC) (hC : CmpC) (hD : DifC) (hA : ∀ w : World, Calls Try.prog 8 #[] w fun e w' => e = .returned (.bool true) ∧ Below w.heap.size w w') (a b : Hd) (oa : OkH a) (ob : OkH b) (k0 : Nat) (hk0 : k0 < 104) (hsm : ∀ j, j < k0 → bitH a j = bitH b j) (p q : Nat) (C : Int) (hp : bitH a k0 = p) (hq : bitH b k0 = q) (hpq : (p = 0 ∧ q = 1 ∧ C = -1) ∨ (p = 1 ∧ q = 0 ∧ C = 1)) (hcm : cmpH a b = C) (w : World) :
    Calls Try.prog 3 #[.agg #[.int .u32 (a.s : Int), .int .u32 (a.d : Int), .int .u16 (a.p : Int), .int .u16 (a.q : Int), .int .u8 (a.r : Int)], .agg #[.int .u32 (b.s : Int), .int .u32 (b.d : Int), .int .u16 (b.p : Int), .int .u16 (b.q : Int), .int .u8 (b.r : Int)]] w fun e w' => e = .returned (.bool true) ∧ Below w.heap.size w w' := by
  have hne : bitH a k0 ≠ bitH b k0 := by rw [hp, hq]; omega
  have hab : a ≠ b := fun e => hne (by rw [e])
  have hEq := fun W => eqH_no hab W
  have k1 := fun W => hP a W oa
  have k2 := fun W => hP b W ob
  have c1 := fun W => hC a b W oa ob
  have c2 := fun W => hD a b W oa ob
  have c3 := fun W => hBit a k0 W oa hk0
  have c4 := fun W => hBit b k0 W ob hk0
  have c5 := fun W => hTrn a k0 W oa hk0
  have c6 := fun W => hD (turnH a k0) b W (ok_turn _) ob
  have c7 := fun W => hD (turnH a k0) a W (ok_turn _) oa
  rw [hcm] at c1
  rw [difH_uniq hk0 hne hsm] at c2
  rw [hp] at c3
  rw [hq] at c4
  rw [dif_turn_a hk0] at c7
  have hd2 := dif_turn_b (a := a) ob hk0 hne
  have HSame : Hid (∀ j, j < k0 → bitH a j = bitH b j) := hsm
  have HLex : Hid (∀ k, k ≤ 13 → (k = 13 ∨ lexC (bytesH a) (bytesH b) k ≠ 0) → lexC (bytesH a) (bytesH b) k = C) := fun k h1 h2 => by rw [lexC_13 oa ob h1 h2, hcm]
  generalize difH (turnH a k0) b = D2 at *
  generalize turnH a k0 = tt at *
  have hd3 : (D2 != (k0 : Int)) = true := by simpa using hd2
  have e1 : ((k0 : Int) == -1) = false := by rw [beq_eq_false_iff_ne]; omega
  have e2 : ¬ (k0 : Int) = -1 := by omega
  have e3 : ¬ (k0 : Int) < -1 := by omega
  have e4 : ¬ (103 : Int) < (k0 : Int) := by omega
  have e5 : (0 : Int) ≤ (k0 : Int) := by omega
  have e6 : (k0 : Int) < 104 := by omega
  clear hP hTrn hC hD hne hab hp hq hcm hsm hd2
  rcases hpq with ⟨rfl, rfl, rfl⟩ | ⟨rfl, rfl, rfl⟩
  · go_enter Try.func3, Try.ntmps3
    go_wp2_with (fail)
    refine (k1 _).mono ?_
    rintro e w1 ⟨vp, rfl, rp, hb1⟩
    have hz1 := hb1.size
    (try simp at hz1)
    have p_1 : Hid (RowB w1 w.heap.size vp (bytesH a)) := rp.base (by first | omega | (simp; done) | (simp; omega))
    clear rp
    have a0_1 : w1.cell? ⟨w.heap.size, 0, none⟩ = some (.int .u32 (a.s : Int)) := cell_on hb1 (show ((w.alloc (.cells #[.int .u32 (a.s : Int), .int .u32 (a.d : Int), .int .u16 (a.p : Int), .int .u16 (a.q : Int), .int .u8 (a.r : Int)] 25)).alloc (.cells #[.int .u32 (b.s : Int), .int .u32 (b.d : Int), .int .u16 (b.p : Int), .int .u16 (b.q : Int), .int .u8 (b.r : Int)] 25)).cell? ⟨w.heap.size, 0, none⟩ = some (.int .u32 (a.s : Int)) from by simp [go_sem])
    have a1_1 : w1.cell? ⟨w.heap.size, 1, none⟩ = some (.int .u32 (a.d : Int)) := cell_on hb1 (show ((w.alloc (.cells #[.int .u32 (a.s : Int), .int .u32 (a.d : Int), .int .u16 (a.p : Int), .int .u16 (a.q : Int), .int .u8 (a.r : Int)] 25)).alloc (.cells #[.int .u32 (b.s : Int), .int .u32 (b.d : Int), .int .u16 (b.p : Int), .int .u16 (b.q : Int), .int .u8 (b.r : Int)] 25)).cell? ⟨w.heap.size, 1, none⟩ = some (.int .u32 (a.d : Int)) from by simp [go_sem])
    have a2_1 : w1.cell? ⟨w.heap.size, 2, none⟩ = some (.int .u16 (a.p : Int)) := cell_on hb1 (show ((w.alloc (.cells #[.int .u32 (a.s : Int), .int .u32 (a.d : Int), .int .u16 (a.p : Int), .int .u16 (a.q : Int), .int .u8 (a.r : Int)] 25)).alloc (.cells #[.int .u32 (b.s : Int), .int .u32 (b.d : Int), .int .u16 (b.p : Int), .int .u16 (b.q : Int), .int .u8 (b.r : Int)] 25)).cell? ⟨w.heap.size, 2, none⟩ = some (.int .u16 (a.p : Int)) from by simp [go_sem])
    have a3_1 : w1.cell? ⟨w.heap.size, 3, none⟩ = some (.int .u16 (a.q : Int)) := cell_on hb1 (show ((w.alloc (.cells #[.int .u32 (a.s : Int), .int .u32 (a.d : Int), .int .u16 (a.p : Int), .int .u16 (a.q : Int), .int .u8 (a.r : Int)] 25)).alloc (.cells #[.int .u32 (b.s : Int), .int .u32 (b.d : Int), .int .u16 (b.p : Int), .int .u16 (b.q : Int), .int .u8 (b.r : Int)] 25)).cell? ⟨w.heap.size, 3, none⟩ = some (.int .u16 (a.q : Int)) from by simp [go_sem])
    have a4_1 : w1.cell? ⟨w.heap.size, 4, none⟩ = some (.int .u8 (a.r : Int)) := cell_on hb1 (show ((w.alloc (.cells #[.int .u32 (a.s : Int), .int .u32 (a.d : Int), .int .u16 (a.p : Int), .int .u16 (a.q : Int), .int .u8 (a.r : Int)] 25)).alloc (.cells #[.int .u32 (b.s : Int), .int .u32 (b.d : Int), .int .u16 (b.p : Int), .int .u16 (b.q : Int), .int .u8 (b.r : Int)] 25)).cell? ⟨w.heap.size, 4, none⟩ = some (.int .u8 (a.r : Int)) from by simp [go_sem])
    have b0_1 : w1.cell? ⟨w.heap.size + 1, 0, none⟩ = some (.int .u32 (b.s : Int)) := cell_on hb1 (show ((w.alloc (.cells #[.int .u32 (a.s : Int), .int .u32 (a.d : Int), .int .u16 (a.p : Int), .int .u16 (a.q : Int), .int .u8 (a.r : Int)] 25)).alloc (.cells #[.int .u32 (b.s : Int), .int .u32 (b.d : Int), .int .u16 (b.p : Int), .int .u16 (b.q : Int), .int .u8 (b.r : Int)] 25)).cell? ⟨w.heap.size + 1, 0, none⟩ = some (.int .u32 (b.s : Int)) from by simp [go_sem])
    have b1_1 : w1.cell? ⟨w.heap.size + 1, 1, none⟩ = some (.int .u32 (b.d : Int)) := cell_on hb1 (show ((w.alloc (.cells #[.int .u32 (a.s : Int), .int .u32 (a.d : Int), .int .u16 (a.p : Int), .int .u16 (a.q : Int), .int .u8 (a.r : Int)] 25)).alloc (.cells #[.int .u32 (b.s : Int), .int .u32 (b.d : Int), .int .u16 (b.p : Int), .int .u16 (b.q : Int), .int .u8 (b.r : Int)] 25)).cell? ⟨w.heap.size + 1, 1, none⟩ = some (.int .u32 (b.d : Int)) from by simp [go_sem])
    have b2_1 : w1.cell? ⟨w.heap.size + 1, 2, none⟩ = some (.int .u16 (b.p : Int)) := cell_on hb1 (show ((w.alloc (.cells #[.int .u32 (a.s : Int), .int .u32 (a.d : Int), .int .u16 (a.p : Int), .int .u16 (a.q : Int), .int .u8 (a.r : Int)] 25)).alloc (.cells #[.int .u32 (b.s : Int), .int .u32 (b.d : Int), .int .u16 (b.p : Int), .int .u16 (b.q : Int), .int .u8 (b.r : Int)] 25)).cell? ⟨w.heap.size + 1, 2, none⟩ = some (.int .u16 (b.p : Int)) from by simp [go_sem])
    have b3_1 : w1.cell? ⟨w.heap.size + 1, 3, none⟩ = some (.int .u16 (b.q : Int)) := cell_on hb1 (show ((w.alloc (.cells #[.int .u32 (a.s : Int), .int .u32 (a.d : Int), .int .u16 (a.p : Int), .int .u16 (a.q : Int), .int .u8 (a.r : Int)] 25)).alloc (.cells #[.int .u32 (b.s : Int), .int .u32 (b.d : Int), .int .u16 (b.p : Int), .int .u16 (b.q : Int), .int .u8 (b.r : Int)] 25)).cell? ⟨w.heap.size + 1, 3, none⟩ = some (.int .u16 (b.q : Int)) from by simp [go_sem])
    have b4_1 : w1.cell? ⟨w.heap.size + 1, 4, none⟩ = some (.int .u8 (b.r : Int)) := cell_on hb1 (show ((w.alloc (.cells #[.int .u32 (a.s : Int), .int .u32 (a.d : Int), .int .u16 (a.p : Int), .int .u16 (a.q : Int), .int .u8 (a.r : Int)] 25)).alloc (.cells #[.int .u32 (b.s : Int), .int .u32 (b.d : Int), .int .u16 (b.p : Int), .int .u16 (b.q : Int), .int .u8 (b.r : Int)] 25)).cell? ⟨w.heap.size + 1, 4, none⟩ = some (.int .u8 (b.r : Int)) from by simp [go_sem])
    have hg1_0 : w.heap.size < w1.heap.size := by omega
    have hg1_1 : w.heap.size + 1 < w1.heap.size := by omega
    have hl1 : w.heap.size ≤ w1.heap.size := by omega
    have hw1 : Hid (Below w.heap.size w w1) := (((Below.refl _ _).alloc (by first | omega | (simp; done) | (simp; omega)) _).alloc (by first | omega | (simp; done) | (simp; omega)) _).trans (hb1.mono (by first | omega | (simp; done) | (simp; omega)))
    clear hb1
    go_wp2_with (fail)
    refine (k2 _).mono ?_
    rintro e w2 ⟨vq, rfl, rq, hb2⟩
    have hz2 := hb2.size
    (try simp at hz2)
    have q_2 : Hid (RowB w2 w.heap.size vq (bytesH b)) := rq.base (by first | omega | (simp; done) | (simp; omega))
    clear rq
    have a0_2 : w2.cell? ⟨w.heap.size, 0, none⟩ = some (.int .u32 (a.s : Int)) := cell_on hb2 a0_1
    have a1_2 : w2.cell? ⟨w.heap.size, 1, none⟩ = some (.int .u32 (a.d : Int)) := cell_on hb2 a1_1
    have a2_2 : w2.cell? ⟨w.heap.size, 2, none⟩ = some (.int .u16 (a.p : Int)) := cell_on hb2 a2_1
    have a3_2 : w2.cell? ⟨w.heap.size, 3, none⟩ = some (.int .u16 (a.q : Int)) := cell_on hb2 a3_1
    have a4_2 : w2.cell? ⟨w.heap.size, 4, none⟩ = some (.int .u8 (a.r : Int)) := cell_on hb2 a4_1
    have b0_2 : w2.cell? ⟨w.heap.size + 1, 0, none⟩ = some (.int .u32 (b.s : Int)) := cell_on hb2 b0_1
    have b1_2 : w2.cell? ⟨w.heap.size + 1, 1, none⟩ = some (.int .u32 (b.d : Int)) := cell_on hb2 b1_1
    have b2_2 : w2.cell? ⟨w.heap.size + 1, 2, none⟩ = some (.int .u16 (b.p : Int)) := cell_on hb2 b2_1
    have b3_2 : w2.cell? ⟨w.heap.size + 1, 3, none⟩ = some (.int .u16 (b.q : Int)) := cell_on hb2 b3_1
    have b4_2 : w2.cell? ⟨w.heap.size + 1, 4, none⟩ = some (.int .u8 (b.r : Int)) := cell_on hb2 b4_1
    have p_2 : Hid (RowB w2 w.heap.size vp (bytesH a)) := RowB.on p_1.out hb2
    have hg2_0 : w.heap.size < w2.heap.size := by omega
    have hg2_1 : w.heap.size + 1 < w2.heap.size := by omega
    have hl2 : w.heap.size ≤ w2.heap.size := by omega
    have hw2 : Hid (Below w.heap.size w w2) := hw1.out.trans (hb2.mono (by first | omega | (simp; done) | (simp; omega)))
    clear hb2 a0_1 a1_1 a2_1 a3_1 a4_1 b0_1 b1_1 b2_1 b3_1 b4_1 p_1 hg1_0 hg1_1 hw1
    obtain ⟨ad1, cap1, hv1, hca1, hat1⟩ := p_2.out.form
    rw [bytesH_length] at hv1 hca1
    subst hv1
    obtain ⟨g1, rfl, hgl1, hgu1, hbc1⟩ := hat1 (by rw [bytesH_length]; omega)
    have HX1 : Hid (∀ k (hk : k < 13), w2.cell? ⟨g1, k, none⟩ = some (.int .u8 ((bytesH a).getD k 0 : Int))) := fun k hk => by rw [hbc1 k (by rw [bytesH_length]; omega), List.getD_eq_getElem?_getD, List.getElem?_eq_getElem (by rw [bytesH_length]; omega)]; rfl
    clear hat1 hbc1 p_2
    obtain ⟨ad2, cap2, hv2, hca2, hat2⟩ := q_2.out.form
    rw [bytesH_length] at hv2 hca2
    subst hv2
    obtain ⟨g2, rfl, hgl2, hgu2, hbc2⟩ := hat2 (by rw [bytesH_length]; omega)
    have HX2 : Hid (∀ k (hk : k < 13), w2.cell? ⟨g2, k, none⟩ = some (.int .u8 ((bytesH b).getD k 0 : Int))) := fun k hk => by rw [hbc2 k (by rw [bytesH_length]; omega), List.getD_eq_getElem?_getD, List.getElem?_eq_getElem (by rw [bytesH_length]; omega)]; rfl
    clear hat2 hbc2 q_2
    go_wp2_with (fail)
    obtain ⟨W, hW⟩ : ∃ W, W = w2 := ⟨_, rfl⟩
    rw [← hW] at HX1 HX2 hw2
    have a0_W : W.cell? ⟨w.heap.size, 0, none⟩ = some (.int .u32 (a.s : Int)) := by rw [hW]; exact a0_2
    have a1_W : W.cell? ⟨w.heap.size, 1, none⟩ = some (.int .u32 (a.d : Int)) := by rw [hW]; exact a1_2
    have a2_W : W.cell? ⟨w.heap.size, 2, none⟩ = some (.int .u16 (a.p : Int)) := by rw [hW]; exact a2_2
    have a3_W : W.cell? ⟨w.heap.size, 3, none⟩ = some (.int .u16 (a.q : Int)) := by rw [hW]; exact a3_2
    have a4_W : W.cell? ⟨w.heap.size, 4, none⟩ = some (.int .u8 (a.r : Int)) := by rw [hW]; exact a4_2
    have b0_W : W.cell? ⟨w.heap.size + 1, 0, none⟩ = some (.int .u32 (b.s : Int)) := by rw [hW]; exact b0_2
    have b1_W : W.cell? ⟨w.heap.size + 1, 1, none⟩ = some (.int .u32 (b.d : Int)) := by rw [hW]; exact b1_2
    have b2_W : W.cell? ⟨w.heap.size + 1, 2, none⟩ = some (.int .u16 (b.p : Int)) := by rw [hW]; exact b2_2
    have b3_W : W.cell? ⟨w.heap.size + 1, 3, none⟩ = some (.int .u16 (b.q : Int)) := by rw [hW]; exact b3_2
    have b4_W : W.cell? ⟨w.heap.size + 1, 4, none⟩ = some (.int .u8 (b.r : Int)) := by rw [hW]; exact b4_2
    have HWw : Hid (Below w.heap.size w W) := hw2.out
    rw [← hW]
    clear hW hgu1 hgu2 hw2 a0_2 a1_2 a2_2 a3_2 a4_2 b0_2 b1_2 b2_2 b3_2 b4_2
    go_loopw [7, 8] (fun cv iv wr => ∃ k d : Nat, k ≤ 13 ∧ iv = .int .i64 (k : Int) ∧ cv = .int .i64 (lexC (bytesH a) (bytesH b) k) ∧ wr = W.drewN d) (fun _ iv _ => 13 - (intOf iv).toNat)
    case atStart => exact ⟨0, 0, by omega, rfl, rfl, rfl⟩
    case round =>
      obtain ⟨k, d, hk, rfl, rfl, rfl⟩ := hrel
      by_cases hlt : k < 13
      · have hlt' : (k : Int) < 13 := by omega
        have hk0 : (0 : Int) ≤ (k : Int) := by omega
        by_cases hc0 : lexC (bytesH a) (bytesH b) k = 0
        · have x0 := HX1.out k hlt
          have y0 := HX2.out k hlt
          have HS : Hid (lexC (bytesH a) (bytesH b) (k + 1) = if (bytesH a).getD k 0 < (bytesH b).getD k 0 then -1 else if (bytesH b).getD k 0 < (bytesH a).getD k 0 then 1 else 0) := by
            show (if lexC (bytesH a) (bytesH b) k ≠ 0 then _ else _) = _
            rw [if_neg (by simpa using hc0)]
          rw [hc0]
          generalize (bytesH a).getD k 0 = X at *
          generalize (bytesH b).getD k 0 = Y at *
          clear hc0
          rcases Nat.lt_trichotomy X Y with hc | hc | hc
          · rw [if_pos hc] at HS
            have hc' : (X : Int) < (Y : Int) := by omega
            have hc2 : ¬ (Y : Int) < (X : Int) := by omega
            go_wp2
            go_quiet (fail)
            go_wp2
            go_quiet (fail)
            go_wp2
            go_roundw
            case rel => exact ⟨k + 1, _, by omega, by go_num, by rw [HS.out], rfl⟩
            case measure => simp [intOf]; omega
          · subst hc
            rw [if_neg (by omega), if_neg (by omega)] at HS
            have hn : ¬ (X : Int) < (X : Int) := by omega
            go_wp2
            go_quiet (fail)
            go_wp2
            go_quiet (fail)
            go_wp2
            go_roundw
            case rel => exact ⟨k + 1, _, by omega, by go_num, by rw [HS.out], rfl⟩
            case measure => simp [intOf]; omega
          · rw [if_neg (by omega), if_pos hc] at HS
            have hc' : (Y : Int) < (X : Int) := by omega
            have hc2 : ¬ (X : Int) < (Y : Int) := by omega
            go_wp2
            go_quiet (fail)
            go_wp2
            go_quiet (fail)
            go_wp2
            go_roundw
            case rel => exact ⟨k + 1, _, by omega, by go_num, by rw [HS.out], rfl⟩
            case measure => simp [intOf]; omega
        · have hE := HLex.out k (by omega) (.inr hc0)
          rw [hE]
          clear hE hc0 HX1 HX2
          obtain ⟨wx, hwx⟩ : ∃ wx, wx = W.drewN d := ⟨_, rfl⟩
          rw [← hwx]
          have a0_x : wx.cell? ⟨w.heap.size, 0, none⟩ = some (.int .u32 (a.s : Int)) := by rw [hwx]; simpa using a0_W
          have a1_x : wx.cell? ⟨w.heap.size, 1, none⟩ = some (.int .u32 (a.d : Int)) := by rw [hwx]; simpa using a1_W
          have a2_x : wx.cell? ⟨w.heap.size, 2, none⟩ = some (.int .u16 (a.p : Int)) := by rw [hwx]; simpa using a2_W
          have a3_x : wx.cell? ⟨w.heap.size, 3, none⟩ = some (.int .u16 (a.q : Int)) := by rw [hwx]; simpa using a3_W
          have a4_x : wx.cell? ⟨w.heap.size, 4, none⟩ = some (.int .u8 (a.r : Int)) := by rw [hwx]; simpa using a4_W
          have b0_x : wx.cell? ⟨w.heap.size + 1, 0, none⟩ = some (.int .u32 (b.s : Int)) := by rw [hwx]; simpa using b0_W
          have b1_x : wx.cell? ⟨w.heap.size + 1, 1, none⟩ = some (.int .u32 (b.d : Int)) := by rw [hwx]; simpa using b1_W
          have b2_x : wx.cell? ⟨w.heap.size + 1, 2, none⟩ = some (.int .u16 (b.p : Int)) := by rw [hwx]; simpa using b2_W
          have b3_x : wx.cell? ⟨w.heap.size + 1, 3, none⟩ = some (.int .u16 (b.q : Int)) := by rw [hwx]; simpa using b3_W
          have b4_x : wx.cell? ⟨w.heap.size + 1, 4, none⟩ = some (.int .u8 (b.r : Int)) := by rw [hwx]; simpa using b4_W
          have hwr : Hid (Below w.heap.size w wx) := by rw [hwx]; exact bel_drewN HWw.out d
          have hlr : w.heap.size ≤ wx.heap.size := hwr.out.size
          have hgx_0 : w.heap.size < wx.heap.size := World.block_lt_of_cell? _ _ a0_x
          have hgx_1 : w.heap.size + 1 < wx.heap.size := World.block_lt_of_cell? _ _ b0_x
          clear hwx HWw a0_W a1_W a2_W a3_W a4_W b0_W b1_W b2_W b3_W b4_W
          go_wp2_with (fail)
          refine (c1 _).mono ?_
          rintro e w101 ⟨rfl, hb101⟩
          have hz101 := hb101.size
          (try simp at hz101)
          have a0_101 : w101.cell? ⟨w.heap.size, 0, none⟩ = some (.int .u32 (a.s : Int)) := cell_on hb101 a0_x
          have a1_101 : w101.cell? ⟨w.heap.size, 1, none⟩ = some (.int .u32 (a.d : Int)) := cell_on hb101 a1_x
          have a2_101 : w101.cell? ⟨w.heap.size, 2, none⟩ = some (.int .u16 (a.p : Int)) := cell_on hb101 a2_x
          have a3_101 : w101.cell? ⟨w.heap.size, 3, none⟩ = some (.int .u16 (a.q : Int)) := cell_on hb101 a3_x
          have a4_101 : w101.cell? ⟨w.heap.size, 4, none⟩ = some (.int .u8 (a.r : Int)) := cell_on hb101 a4_x
          have b0_101 : w101.cell? ⟨w.heap.size + 1, 0, none⟩ = some (.int .u32 (b.s : Int)) := cell_on hb101 b0_x
          have b1_101 : w101.cell? ⟨w.heap.size + 1, 1, none⟩ = some (.int .u32 (b.d : Int)) := cell_on hb101 b1_x
          have b2_101 : w101.cell? ⟨w.heap.size + 1, 2, none⟩ = some (.int .u16 (b.p : Int)) := cell_on hb101 b2_x
          have b3_101 : w101.cell? ⟨w.heap.size + 1, 3, none⟩ = some (.int .u16 (b.q : Int)) := cell_on hb101 b3_x
          have b4_101 : w101.cell? ⟨w.heap.size + 1, 4, none⟩ = some (.int .u8 (b.r : Int)) := cell_on hb101 b4_x
          have hg101_0 : w.heap.size < w101.heap.size := by omega
          have hg101_1 : w.heap.size + 1 < w101.heap.size := by omega
          have hl101 : w.heap.size ≤ w101.heap.size := by omega
          have hw101 : Hid (Below w.heap.size w w101) := hwr.out.trans (hb101.mono (by first | omega | (simp; done) | (simp; omega)))
          clear hb101 a0_x a1_x a2_x a3_x a4_x b0_x b1_x b2_x b3_x b4_x hgx_0 hgx_1 hwr
          go_wp2_with (fail)
          refine (c2 _).mono ?_
          rintro e w102 ⟨rfl, hb102⟩
          have hz102 := hb102.size
          (try simp at hz102)
          have a0_102 : w102.cell? ⟨w.heap.size, 0, none⟩ = some (.int .u32 (a.s : Int)) := cell_on hb102 a0_101
          have a1_102 : w102.cell? ⟨w.heap.size, 1, none⟩ = some (.int .u32 (a.d : Int)) := cell_on hb102 a1_101
          have a2_102 : w102.cell? ⟨w.heap.size, 2, none⟩ = some (.int .u16 (a.p : Int)) := cell_on hb102 a2_101
          have a3_102 : w102.cell? ⟨w.heap.size, 3, none⟩ = some (.int .u16 (a.q : Int)) := cell_on hb102 a3_101
          have a4_102 : w102.cell? ⟨w.heap.size, 4, none⟩ = some (.int .u8 (a.r : Int)) := cell_on hb102 a4_101
          have b0_102 : w102.cell? ⟨w.heap.size + 1, 0, none⟩ = some (.int .u32 (b.s : Int)) := cell_on hb102 b0_101
          have b1_102 : w102.cell? ⟨w.heap.size + 1, 1, none⟩ = some (.int .u32 (b.d : Int)) := cell_on hb102 b1_101
          have b2_102 : w102.cell? ⟨w.heap.size + 1, 2, none⟩ = some (.int .u16 (b.p : Int)) := cell_on hb102 b2_101
          have b3_102 : w102.cell? ⟨w.heap.size + 1, 3, none⟩ = some (.int .u16 (b.q : Int)) := cell_on hb102 b3_101
          have b4_102 : w102.cell? ⟨w.heap.size + 1, 4, none⟩ = some (.int .u8 (b.r : Int)) := cell_on hb102 b4_101
          have hg102_0 : w.heap.size < w102.heap.size := by omega
          have hg102_1 : w.heap.size + 1 < w102.heap.size := by omega
          have hl102 : w.heap.size ≤ w102.heap.size := by omega
          have hw102 : Hid (Below w.heap.size w w102) := hw101.out.trans (hb102.mono (by first | omega | (simp; done) | (simp; omega)))
          clear hb102 a0_101 a1_101 a2_101 a3_101 a4_101 b0_101 b1_101 b2_101 b3_101 b4_101 hg101_0 hg101_1 hw101
          go_wp2_with (fail)
          refine (c3 _).mono ?_
          rintro e w103 ⟨rfl, hb103⟩
          have hz103 := hb103.size
          (try simp at hz103)
          have a0_103 : w103.cell? ⟨w.heap.size, 0, none⟩ = some (.int .u32 (a.s : Int)) := cell_on hb103 a0_102
          have a1_103 : w103.cell? ⟨w.heap.size, 1, none⟩ = some (.int .u32 (a.d : Int)) := cell_on hb103 a1_102
          have a2_103 : w103.cell? ⟨w.heap.size, 2, none⟩ = some (.int .u16 (a.p : Int)) := cell_on hb103 a2_102
          have a3_103 : w103.cell? ⟨w.heap.size, 3, none⟩ = some (.int .u16 (a.q : Int)) := cell_on hb103 a3_102
          have a4_103 : w103.cell? ⟨w.heap.size, 4, none⟩ = some (.int .u8 (a.r : Int)) := cell_on hb103 a4_102
          have b0_103 : w103.cell? ⟨w.heap.size + 1, 0, none⟩ = some (.int .u32 (b.s : Int)) := cell_on hb103 b0_102
          have b1_103 : w103.cell? ⟨w.heap.size + 1, 1, none⟩ = some (.int .u32 (b.d : Int)) := cell_on hb103 b1_102
          have b2_103 : w103.cell? ⟨w.heap.size + 1, 2, none⟩ = some (.int .u16 (b.p : Int)) := cell_on hb103 b2_102
          have b3_103 : w103.cell? ⟨w.heap.size + 1, 3, none⟩ = some (.int .u16 (b.q : Int)) := cell_on hb103 b3_102
          have b4_103 : w103.cell? ⟨w.heap.size + 1, 4, none⟩ = some (.int .u8 (b.r : Int)) := cell_on hb103 b4_102
          have hg103_0 : w.heap.size < w103.heap.size := by omega
          have hg103_1 : w.heap.size + 1 < w103.heap.size := by omega
          have hl103 : w.heap.size ≤ w103.heap.size := by omega
          have hw103 : Hid (Below w.heap.size w w103) := hw102.out.trans (hb103.mono (by first | omega | (simp; done) | (simp; omega)))
          clear hb103 a0_102 a1_102 a2_102 a3_102 a4_102 b0_102 b1_102 b2_102 b3_102 b4_102 hg102_0 hg102_1 hw102
          go_wp2_with (fail)
          refine (c4 _).mono ?_
          rintro e w104 ⟨rfl, hb104⟩
          have hz104 := hb104.size
          (try simp at hz104)
          have a0_104 : w104.cell? ⟨w.heap.size, 0, none⟩ = some (.int .u32 (a.s : Int)) := cell_on hb104 a0_103
          have a1_104 : w104.cell? ⟨w.heap.size, 1, none⟩ = some (.int .u32 (a.d : Int)) := cell_on hb104 a1_103
          have a2_104 : w104.cell? ⟨w.heap.size, 2, none⟩ = some (.int .u16 (a.p : Int)) := cell_on hb104 a2_103
          have a3_104 : w104.cell? ⟨w.heap.size, 3, none⟩ = some (.int .u16 (a.q : Int)) := cell_on hb104 a3_103
          have a4_104 : w104.cell? ⟨w.heap.size, 4, none⟩ = some (.int .u8 (a.r : Int)) := cell_on hb104 a4_103
          have b0_104 : w104.cell? ⟨w.heap.size + 1, 0, none⟩ = some (.int .u32 (b.s : Int)) := cell_on hb104 b0_103
          have b1_104 : w104.cell? ⟨w.heap.size + 1, 1, none⟩ = some (.int .u32 (b.d : Int)) := cell_on hb104 b1_103
          have b2_104 : w104.cell? ⟨w.heap.size + 1, 2, none⟩ = some (.int .u16 (b.p : Int)) := cell_on hb104 b2_103
          have b3_104 : w104.cell? ⟨w.heap.size + 1, 3, none⟩ = some (.int .u16 (b.q : Int)) := cell_on hb104 b3_103
          have b4_104 : w104.cell? ⟨w.heap.size + 1, 4, none⟩ = some (.int .u8 (b.r : Int)) := cell_on hb104 b4_103
          have hg104_0 : w.heap.size < w104.heap.size := by omega
          have hg104_1 : w.heap.size + 1 < w104.heap.size := by omega
          have hl104 : w.heap.size ≤ w104.heap.size := by omega
          have hw104 : Hid (Below w.heap.size w w104) := hw103.out.trans (hb104.mono (by first | omega | (simp; done) | (simp; omega)))
          clear hb104 a0_103 a1_103 a2_103 a3_103 a4_103 b0_103 b1_103 b2_103 b3_103 b4_103 hg103_0 hg103_1 hw103
          go_wp2_with (fail)
          go_loopw [15] (fun iv wr => ∃ j : Nat, j ≤ k0 ∧ iv = .int .i64 (j : Int) ∧ Hid (Below w104.heap.size w104 wr)) (fun iv _ => k0 - (intOf iv).toNat)
          case atStart => exact ⟨0, by omega, rfl, Below.refl _ _⟩
          case round =>
            obtain ⟨j, hj, rfl, hbw⟩ := hrel
            have a0_r := cell_on1 hbw.out a0_104
            have a1_r := cell_on1 hbw.out a1_104
            have a2_r := cell_on1 hbw.out a2_104
            have a3_r := cell_on1 hbw.out a3_104
            have a4_r := cell_on1 hbw.out a4_104
            have b0_r := cell_on1 hbw.out b0_104
            have b1_r := cell_on1 hbw.out b1_104
            have b2_r := cell_on1 hbw.out b2_104
            have b3_r := cell_on1 hbw.out b3_104
            have b4_r := cell_on1 hbw.out b4_104
            have hzr := hbw.out.size
            by_cases hltj : j < k0
            · have hltj' : (j : Int) < (k0 : Int) := by omega
              have t1 := fun W => hBit a j W oa (by omega)
              have t2 := fun W => hBit b j W ob (by omega)
              rw [← HSame.out j hltj] at t2
              generalize bitH a j = z at *
              go_wp2_with (fail)
              refine (t1 _).mono ?_
              rintro e wb ⟨rfl, hbb⟩
              have b0_s := cell_on1 hbb b0_r
              have b1_s := cell_on1 hbb b1_r
              have b2_s := cell_on1 hbb b2_r
              have b3_s := cell_on1 hbb b3_r
              have b4_s := cell_on1 hbb b4_r
              have hzb := hbb.size
              have HBB : Hid (Below w104.heap.size w104 wb) := hbw.out.trans (hbb.mono hzr)
              clear hbb hbw t1
              go_wp2_with (fail)
              refine (t2 _).mono ?_
              rintro e wc ⟨rfl, hbc⟩
              have HBC : Hid (Below w104.heap.size w104 wc) := HBB.out.trans (hbc.mono (by omega))
              clear hbc HBB t2
              go_wp2_with (fail)
              go_roundw
              case rel => exact ⟨j + 1, by omega, by go_num, HBC.out⟩
              case measure => simp [intOf]; omega
            · obtain rfl : j = k0 := by omega
              have hwy : Hid (Below w.heap.size w wr) := hw104.out.trans (hbw.out.mono hw104.out.size)
              have hly : w.heap.size ≤ wr.heap.size := hwy.out.size
              have hgx_0 : w.heap.size < wr.heap.size := World.block_lt_of_cell? _ _ a0_r
              have hgx_1 : w.heap.size + 1 < wr.heap.size := World.block_lt_of_cell? _ _ b0_r
              clear hbw hw104 a0_104 a1_104 a2_104 a3_104 a4_104 b0_104 b1_104 b2_104 b3_104 b4_104
              go_wp2_with (fail)
              refine (c5 _).mono ?_
              rintro e w151 ⟨rfl, hb151⟩
              have hz151 := hb151.size
              (try simp at hz151)
              have a0_151 : w151.cell? ⟨w.heap.size, 0, none⟩ = some (.int .u32 (a.s : Int)) := cell_on hb151 a0_r
              have a1_151 : w151.cell? ⟨w.heap.size, 1, none⟩ = some (.int .u32 (a.d : Int)) := cell_on hb151 a1_r
              have a2_151 : w151.cell? ⟨w.heap.size, 2, none⟩ = some (.int .u16 (a.p : Int)) := cell_on hb151 a2_r
              have a3_151 : w151.cell? ⟨w.heap.size, 3, none⟩ = some (.int .u16 (a.q : Int)) := cell_on hb151 a3_r
              have a4_151 : w151.cell? ⟨w.heap.size, 4, none⟩ = some (.int .u8 (a.r : Int)) := cell_on hb151 a4_r
              have b0_151 : w151.cell? ⟨w.heap.size + 1, 0, none⟩ = some (.int .u32 (b.s : Int)) := cell_on hb151 b0_r
              have b1_151 : w151.cell? ⟨w.heap.size + 1, 1, none⟩ = some (.int .u32 (b.d : Int)) := cell_on hb151 b1_r
              have b2_151 : w151.cell? ⟨w.heap.size + 1, 2, none⟩ = some (.int .u16 (b.p : Int)) := cell_on hb151 b2_r
              have b3_151 : w151.cell? ⟨w.heap.size + 1, 3, none⟩ = some (.int .u16 (b.q : Int)) := cell_on hb151 b3_r
              have b4_151 : w151.cell? ⟨w.heap.size + 1, 4, none⟩ = some (.int .u8 (b.r : Int)) := cell_on hb151 b4_r
              have hg151_0 : w.heap.size < w151.heap.size := by omega
              have hg151_1 : w.heap.size + 1 < w151.heap.size := by omega
              have hl151 : w.heap.size ≤ w151.heap.size := by omega
              have hw151 : Hid (Below w.heap.size w w151) := hwy.out.trans (hb151.mono (by first | omega | (simp; done) | (simp; omega)))
              clear hb151 a0_r a1_r a2_r a3_r a4_r b0_r b1_r b2_r b3_r b4_r hgx_0 hgx_1 hwy
              go_wp2_with (fail)
              refine (hA _).mono ?_
              rintro e w152 ⟨rfl, hb152⟩
              have hz152 := hb152.size
              (try simp at hz152)
              have a0_152 : w152.cell? ⟨w.heap.size, 0, none⟩ = some (.int .u32 (a.s : Int)) := cell_on hb152 (cell_alloc a0_151)
              have a1_152 : w152.cell? ⟨w.heap.size, 1, none⟩ = some (.int .u32 (a.d : Int)) := cell_on hb152 (cell_alloc a1_151)
              have a2_152 : w152.cell? ⟨w.heap.size, 2, none⟩ = some (.int .u16 (a.p : Int)) := cell_on hb152 (cell_alloc a2_151)
              have a3_152 : w152.cell? ⟨w.heap.size, 3, none⟩ = some (.int .u16 (a.q : Int)) := cell_on hb152 (cell_alloc a3_151)
              have a4_152 : w152.cell? ⟨w.heap.size, 4, none⟩ = some (.int .u8 (a.r : Int)) := cell_on hb152 (cell_alloc a4_151)
              have b0_152 : w152.cell? ⟨w.heap.size + 1, 0, none⟩ = some (.int .u32 (b.s : Int)) := cell_on hb152 (cell_alloc b0_151)
              have b1_152 : w152.cell? ⟨w.heap.size + 1, 1, none⟩ = some (.int .u32 (b.d : Int)) := cell_on hb152 (cell_alloc b1_151)
              have b2_152 : w152.cell? ⟨w.heap.size + 1, 2, none⟩ = some (.int .u16 (b.p : Int)) := cell_on hb152 (cell_alloc b2_151)
              have b3_152 : w152.cell? ⟨w.heap.size + 1, 3, none⟩ = some (.int .u16 (b.q : Int)) := cell_on hb152 (cell_alloc b3_151)
              have b4_152 : w152.cell? ⟨w.heap.size + 1, 4, none⟩ = some (.int .u8 (b.r : Int)) := cell_on hb152 (cell_alloc b4_151)
              have t0_152 : w152.cell? ⟨w151.heap.size, 0, none⟩ = some (.int .u32 (tt.s : Int)) := cell_on hb152 (show (w151.alloc (.cells #[.int .u32 (tt.s : Int), .int .u32 (tt.d : Int), .int .u16 (tt.p : Int), .int .u16 (tt.q : Int), .int .u8 (tt.r : Int)] 25)).cell? ⟨w151.heap.size, 0, none⟩ = some (.int .u32 (tt.s : Int)) from by simp [go_sem])
              have t1_152 : w152.cell? ⟨w151.heap.size, 1, none⟩ = some (.int .u32 (tt.d : Int)) := cell_on hb152 (show (w151.alloc (.cells #[.int .u32 (tt.s : Int), .int .u32 (tt.d : Int), .int .u16 (tt.p : Int), .int .u16 (tt.q : Int), .int .u8 (tt.r : Int)] 25)).cell? ⟨w151.heap.size, 1, none⟩ = some (.int .u32 (tt.d : Int)) from by simp [go_sem])
              have t2_152 : w152.cell? ⟨w151.heap.size, 2, none⟩ = some (.int .u16 (tt.p : Int)) := cell_on hb152 (show (w151.alloc (.cells #[.int .u32 (tt.s : Int), .int .u32 (tt.d : Int), .int .u16 (tt.p : Int), .int .u16 (tt.q : Int), .int .u8 (tt.r : Int)] 25)).cell? ⟨w151.heap.size, 2, none⟩ = some (.int .u16 (tt.p : Int)) from by simp [go_sem])
              have t3_152 : w152.cell? ⟨w151.heap.size, 3, none⟩ = some (.int .u16 (tt.q : Int)) := cell_on hb152 (show (w151.alloc (.cells #[.int .u32 (tt.s : Int), .int .u32 (tt.d : Int), .int .u16 (tt.p : Int), .int .u16 (tt.q : Int), .int .u8 (tt.r : Int)] 25)).cell? ⟨w151.heap.size, 3, none⟩ = some (.int .u16 (tt.q : Int)) from by simp [go_sem])
              have t4_152 : w152.cell? ⟨w151.heap.size, 4, none⟩ = some (.int .u8 (tt.r : Int)) := cell_on hb152 (show (w151.alloc (.cells #[.int .u32 (tt.s : Int), .int .u32 (tt.d : Int), .int .u16 (tt.p : Int), .int .u16 (tt.q : Int), .int .u8 (tt.r : Int)] 25)).cell? ⟨w151.heap.size, 4, none⟩ = some (.int .u8 (tt.r : Int)) from by simp [go_sem])
              have hg152_0 : w.heap.size < w152.heap.size := by omega
              have hg152_1 : w.heap.size + 1 < w152.heap.size := by omega
              have hg152_2 : w151.heap.size < w152.heap.size := by omega
              have hl152 : w.heap.size ≤ w152.heap.size := by omega
              have hw152 : Hid (Below w.heap.size w w152) := (hw151.out.alloc (by first | omega | (simp; done) | (simp; omega)) _).trans (hb152.mono (by first | omega | (simp; done) | (simp; omega)))
              clear hb152 a0_151 a1_151 a2_151 a3_151 a4_151 b0_151 b1_151 b2_151 b3_151 b4_151 hg151_0 hg151_1 hw151
              go_wp2_with (fail)
              refine (c6 _).mono ?_
              rintro e w153 ⟨rfl, hb153⟩
              have hz153 := hb153.size
              (try simp at hz153)
              have a0_153 : w153.cell? ⟨w.heap.size, 0, none⟩ = some (.int .u32 (a.s : Int)) := cell_on hb153 a0_152
              have a1_153 : w153.cell? ⟨w.heap.size, 1, none⟩ = some (.int .u32 (a.d : Int)) := cell_on hb153 a1_152
              have a2_153 : w153.cell? ⟨w.heap.size, 2, none⟩ = some (.int .u16 (a.p : Int)) := cell_on hb153 a2_152
              have a3_153 : w153.cell? ⟨w.heap.size, 3, none⟩ = some (.int .u16 (a.q : Int)) := cell_on hb153 a3_152
              have a4_153 : w153.cell? ⟨w.heap.size, 4, none⟩ = some (.int .u8 (a.r : Int)) := cell_on hb153 a4_152
              have b0_153 : w153.cell? ⟨w.heap.size + 1, 0, none⟩ = some (.int .u32 (b.s : Int)) := cell_on hb153 b0_152
              have b1_153 : w153.cell? ⟨w.heap.size + 1, 1, none⟩ = some (.int .u32 (b.d : Int)) := cell_on hb153 b1_152
              have b2_153 : w153.cell? ⟨w.heap.size + 1, 2, none⟩ = some (.int .u16 (b.p : Int)) := cell_on hb153 b2_152
              have b3_153 : w153.cell? ⟨w.heap.size + 1, 3, none⟩ = some (.int .u16 (b.q : Int)) := cell_on hb153 b3_152
              have b4_153 : w153.cell? ⟨w.heap.size + 1, 4, none⟩ = some (.int .u8 (b.r : Int)) := cell_on hb153 b4_152
              have t0_153 : w153.cell? ⟨w151.heap.size, 0, none⟩ = some (.int .u32 (tt.s : Int)) := cell_on hb153 t0_152
              have t1_153 : w153.cell? ⟨w151.heap.size, 1, none⟩ = some (.int .u32 (tt.d : Int)) := cell_on hb153 t1_152
              have t2_153 : w153.cell? ⟨w151.heap.size, 2, none⟩ = some (.int .u16 (tt.p : Int)) := cell_on hb153 t2_152
              have t3_153 : w153.cell? ⟨w151.heap.size, 3, none⟩ = some (.int .u16 (tt.q : Int)) := cell_on hb153 t3_152
              have t4_153 : w153.cell? ⟨w151.heap.size, 4, none⟩ = some (.int .u8 (tt.r : Int)) := cell_on hb153 t4_152
              have hg153_0 : w.heap.size < w153.heap.size := by omega
              have hg153_1 : w.heap.size + 1 < w153.heap.size := by omega
              have hg153_2 : w151.heap.size < w153.heap.size := by omega
              have hl153 : w.heap.size ≤ w153.heap.size := by omega
              have hw153 : Hid (Below w.heap.size w w153) := hw152.out.trans (hb153.mono (by first | omega | (simp; done) | (simp; omega)))
              clear hb153 a0_152 a1_152 a2_152 a3_152 a4_152 b0_152 b1_152 b2_152 b3_152 b4_152 t0_152 t1_152 t2_152 t3_152 t4_152 hg152_0 hg152_1 hg152_2 hw152
              go_wp2_with (fail)
              refine (c7 _).mono ?_
              rintro e w154 ⟨rfl, hb154⟩
              have hz154 := hb154.size
              (try simp at hz154)
              have a0_154 : w154.cell? ⟨w.heap.size, 0, none⟩ = some (.int .u32 (a.s : Int)) := cell_on hb154 a0_153
              have a1_154 : w154.cell? ⟨w.heap.size, 1, none⟩ = some (.int .u32 (a.d : Int)) := cell_on hb154 a1_153
              have a2_154 : w154.cell? ⟨w.heap.size, 2, none⟩ = some (.int .u16 (a.p : Int)) := cell_on hb154 a2_153
              have a3_154 : w154.cell? ⟨w.heap.size, 3, none⟩ = some (.int .u16 (a.q : Int)) := cell_on hb154 a3_153
              have a4_154 : w154.cell? ⟨w.heap.size, 4, none⟩ = some (.int .u8 (a.r : Int)) := cell_on hb154 a4_153
              have b0_154 : w154.cell? ⟨w.heap.size + 1, 0, none⟩ = some (.int .u32 (b.s : Int)) := cell_on hb154 b0_153
              have b1_154 : w154.cell? ⟨w.heap.size + 1, 1, none⟩ = some (.int .u32 (b.d : Int)) := cell_on hb154 b1_153
              have b2_154 : w154.cell? ⟨w.heap.size + 1, 2, none⟩ = some (.int .u16 (b.p : Int)) := cell_on hb154 b2_153
              have b3_154 : w154.cell? ⟨w.heap.size + 1, 3, none⟩ = some (.int .u16 (b.q : Int)) := cell_on hb154 b3_153
              have b4_154 : w154.cell? ⟨w.heap.size + 1, 4, none⟩ = some (.int .u8 (b.r : Int)) := cell_on hb154 b4_153
              have t0_154 : w154.cell? ⟨w151.heap.size, 0, none⟩ = some (.int .u32 (tt.s : Int)) := cell_on hb154 t0_153
              have t1_154 : w154.cell? ⟨w151.heap.size, 1, none⟩ = some (.int .u32 (tt.d : Int)) := cell_on hb154 t1_153
              have t2_154 : w154.cell? ⟨w151.heap.size, 2, none⟩ = some (.int .u16 (tt.p : Int)) := cell_on hb154 t2_153
              have t3_154 : w154.cell? ⟨w151.heap.size, 3, none⟩ = some (.int .u16 (tt.q : Int)) := cell_on hb154 t3_153
              have t4_154 : w154.cell? ⟨w151.heap.size, 4, none⟩ = some (.int .u8 (tt.r : Int)) := cell_on hb154 t4_153
              have hg154_0 : w.heap.size < w154.heap.size := by omega
              have hg154_1 : w.heap.size + 1 < w154.heap.size := by omega
              have hg154_2 : w151.heap.size < w154.heap.size := by omega
              have hl154 : w.heap.size ≤ w154.heap.size := by omega
              have hw154 : Hid (Below w.heap.size w w154) := hw153.out.trans (hb154.mono (by first | omega | (simp; done) | (simp; omega)))
              clear hb154 a0_153 a1_153 a2_153 a3_153 a4_153 b0_153 b1_153 b2_153 b3_153 b4_153 t0_153 t1_153 t2_153 t3_153 t4_153 hg153_0 hg153_1 hg153_2 hw153
              go_wp2_with (fail)
              go_ret
              exact ⟨ret_same (by simp), hw154.out⟩
      · obtain rfl : k = 13 := by omega
        have hE := HLex.out 13 (by omega) (.inl rfl)
        rw [hE]
        clear hE HX1 HX2
        obtain ⟨wx, hwx⟩ : ∃ wx, wx = W.drewN d := ⟨_, rfl⟩
        rw [← hwx]
        have a0_x : wx.cell? ⟨w.heap.size, 0, none⟩ = some (.int .u32 (a.s : Int)) := by rw [hwx]; simpa using a0_W
        have a1_x : wx.cell? ⟨w.heap.size, 1, none⟩ = some (.int .u32 (a.d : Int)) := by rw [hwx]; simpa using a1_W
        have a2_x : wx.cell? ⟨w.heap.size, 2, none⟩ = some (.int .u16 (a.p : Int)) := by rw [hwx]; simpa using a2_W
        have a3_x : wx.cell? ⟨w.heap.size, 3, none⟩ = some (.int .u16 (a.q : Int)) := by rw [hwx]; simpa using a3_W
        have a4_x : wx.cell? ⟨w.heap.size, 4, none⟩ = some (.int .u8 (a.r : Int)) := by rw [hwx]; simpa using a4_W
        have b0_x : wx.cell? ⟨w.heap.size + 1, 0, none⟩ = some (.int .u32 (b.s : Int)) := by rw [hwx]; simpa using b0_W
        have b1_x : wx.cell? ⟨w.heap.size + 1, 1, none⟩ = some (.int .u32 (b.d : Int)) := by rw [hwx]; simpa using b1_W
        have b2_x : wx.cell? ⟨w.heap.size + 1, 2, none⟩ = some (.int .u16 (b.p : Int)) := by rw [hwx]; simpa using b2_W
        have b3_x : wx.cell? ⟨w.heap.size + 1, 3, none⟩ = some (.int .u16 (b.q : Int)) := by rw [hwx]; simpa using b3_W
        have b4_x : wx.cell? ⟨w.heap.size + 1, 4, none⟩ = some (.int .u8 (b.r : Int)) := by rw [hwx]; simpa using b4_W
        have hwr : Hid (Below w.heap.size w wx) := by rw [hwx]; exact bel_drewN HWw.out d
        have hlr : w.heap.size ≤ wx.heap.size := hwr.out.size
        have hgx_0 : w.heap.size < wx.heap.size := World.block_lt_of_cell? _ _ a0_x
        have hgx_1 : w.heap.size + 1 < wx.heap.size := World.block_lt_of_cell? _ _ b0_x
        clear hwx HWw a0_W a1_W a2_W a3_W a4_W b0_W b1_W b2_W b3_W b4_W
        go_wp2_with (fail)
        refine (c1 _).mono ?_
        rintro e w201 ⟨rfl, hb201⟩
        have hz201 := hb201.size
        (try simp at hz201)
        have a0_201 : w201.cell? ⟨w.heap.size, 0, none⟩ = some (.int .u32 (a.s : Int)) := cell_on hb201 a0_x
        have a1_201 : w201.cell? ⟨w.heap.size, 1, none⟩ = some (.int .u32 (a.d : Int)) := cell_on hb201 a1_x
        have a2_201 : w201.cell? ⟨w.heap.size, 2, none⟩ = some (.int .u16 (a.p : Int)) := cell_on hb201 a2_x
        have a3_201 : w201.cell? ⟨w.heap.size, 3, none⟩ = some (.int .u16 (a.q : Int)) := cell_on hb201 a3_x
        have a4_201 : w201.cell? ⟨w.heap.size, 4, none⟩ = some (.int .u8 (a.r : Int)) := cell_on hb201 a4_x
        have b0_201 : w201.cell? ⟨w.heap.size + 1, 0, none⟩ = some (.int .u32 (b.s : Int)) := cell_on hb201 b0_x
        have b1_201 : w201.cell? ⟨w.heap.size + 1, 1, none⟩ = some (.int .u32 (b.d : Int)) := cell_on hb201 b1_x
        have b2_201 : w201.cell? ⟨w.heap.size + 1, 2, none⟩ = some (.int .u16 (b.p : Int)) := cell_on hb201 b2_x
        have b3_201 : w201.cell? ⟨w.heap.size + 1, 3, none⟩ = some (.int .u16 (b.q : Int)) := cell_on hb201 b3_x
        have b4_201 : w201.cell? ⟨w.heap.size + 1, 4, none⟩ = some (.int .u8 (b.r : Int)) := cell_on hb201 b4_x
        have hg201_0 : w.heap.size < w201.heap.size := by omega
        have hg201_1 : w.heap.size + 1 < w201.heap.size := by omega
        have hl201 : w.heap.size ≤ w201.heap.size := by omega
        have hw201 : Hid (Below w.heap.size w w201) := hwr.out.trans (hb201.mono (by first | omega | (simp; done) | (simp; omega)))
        clear hb201 a0_x a1_x a2_x a3_x a4_x b0_x b1_x b2_x b3_x b4_x hgx_0 hgx_1 hwr
        go_wp2_with (fail)
        refine (c2 _).mono ?_
        rintro e w202 ⟨rfl, hb202⟩
        have hz202 := hb202.size
        (try simp at hz202)
        have a0_202 : w202.cell? ⟨w.heap.size, 0, none⟩ = some (.int .u32 (a.s : Int)) := cell_on hb202 a0_201
        have a1_202 : w202.cell? ⟨w.heap.size, 1, none⟩ = some (.int .u32 (a.d : Int)) := cell_on hb202 a1_201
        have a2_202 : w202.cell? ⟨w.heap.size, 2, none⟩ = some (.int .u16 (a.p : Int)) := cell_on hb202 a2_201
        have a3_202 : w202.cell? ⟨w.heap.size, 3, none⟩ = some (.int .u16 (a.q : Int)) := cell_on hb202 a3_201
        have a4_202 : w202.cell? ⟨w.heap.size, 4, none⟩ = some (.int .u8 (a.r : Int)) := cell_on hb202 a4_201
        have b0_202 : w202.cell? ⟨w.heap.size + 1, 0, none⟩ = some (.int .u32 (b.s : Int)) := cell_on hb202 b0_201
        have b1_202 : w202.cell? ⟨w.heap.size + 1, 1, none⟩ = some (.int .u32 (b.d : Int)) := cell_on hb202 b1_201
        have b2_202 : w202.cell? ⟨w.heap.size + 1, 2, none⟩ = some (.int .u16 (b.p : Int)) := cell_on hb202 b2_201
        have b3_202 : w202.cell? ⟨w.heap.size + 1, 3, none⟩ = some (.int .u16 (b.q : Int)) := cell_on hb202 b3_201
        have b4_202 : w202.cell? ⟨w.heap.size + 1, 4, none⟩ = some (.int .u8 (b.r : Int)) := cell_on hb202 b4_201
        have hg202_0 : w.heap.size < w202.heap.size := by omega
        have hg202_1 : w.heap.size + 1 < w202.heap.size := by omega
        have hl202 : w.heap.size ≤ w202.heap.size := by omega
        have hw202 : Hid (Below w.heap.size w w202) := hw201.out.trans (hb202.mono (by first | omega | (simp; done) | (simp; omega)))
        clear hb202 a0_201 a1_201 a2_201 a3_201 a4_201 b0_201 b1_201 b2_201 b3_201 b4_201 hg201_0 hg201_1 hw201
        go_wp2_with (fail)
        refine (c3 _).mono ?_
        rintro e w203 ⟨rfl, hb203⟩
        have hz203 := hb203.size
        (try simp at hz203)
        have a0_203 : w203.cell? ⟨w.heap.size, 0, none⟩ = some (.int .u32 (a.s : Int)) := cell_on hb203 a0_202
        have a1_203 : w203.cell? ⟨w.heap.size, 1, none⟩ = some (.int .u32 (a.d : Int)) := cell_on hb203 a1_202
        have a2_203 : w203.cell? ⟨w.heap.size, 2, none⟩ = some (.int .u16 (a.p : Int)) := cell_on hb203 a2_202
        have a3_203 : w203.cell? ⟨w.heap.size, 3, none⟩ = some (.int .u16 (a.q : Int)) := cell_on hb203 a3_202
        have a4_203 : w203.cell? ⟨w.heap.size, 4, none⟩ = some (.int .u8 (a.r : Int)) := cell_on hb203 a4_202
        have b0_203 : w203.cell? ⟨w.heap.size + 1, 0, none⟩ = some (.int .u32 (b.s : Int)) := cell_on hb203 b0_202
        have b1_203 : w203.cell? ⟨w.heap.size + 1, 1, none⟩ = some (.int .u32 (b.d : Int)) := cell_on hb203 b1_202
        have b2_203 : w203.cell? ⟨w.heap.size + 1, 2, none⟩ = some (.int .u16 (b.p : Int)) := cell_on hb203 b2_202
        have b3_203 : w203.cell? ⟨w.heap.size + 1, 3, none⟩ = some (.int .u16 (b.q : Int)) := cell_on hb203 b3_202
        have b4_203 : w203.cell? ⟨w.heap.size + 1, 4, none⟩ = some (.int .u8 (b.r : Int)) := cell_on hb203 b4_202
        have hg203_0 : w.heap.size < w203.heap.size := by omega
        have hg203_1 : w.heap.size + 1 < w203.heap.size := by omega
        have hl203 : w.heap.size ≤ w203.heap.size := by omega
        have hw203 : Hid (Below w.heap.size w w203) := hw202.out.trans (hb203.mono (by first | omega | (simp; done) | (simp; omega)))
        clear hb203 a0_202 a1_202 a2_202 a3_202 a4_202 b0_202 b1_202 b2_202 b3_202 b4_202 hg202_0 hg202_1 hw202
        go_wp2_with (fail)
        refine (c4 _).mono ?_
        rintro e w204 ⟨rfl, hb204⟩
        have hz204 := hb204.size
        (try simp at hz204)
        have a0_204 : w204.cell? ⟨w.heap.size, 0, none⟩ = some (.int .u32 (a.s : Int)) := cell_on hb204 a0_203
        have a1_204 : w204.cell? ⟨w.heap.size, 1, none⟩ = some (.int .u32 (a.d : Int)) := cell_on hb204 a1_203
        have a2_204 : w204.cell? ⟨w.heap.size, 2, none⟩ = some (.int .u16 (a.p : Int)) := cell_on hb204 a2_203
        have a3_204 : w204.cell? ⟨w.heap.size, 3, none⟩ = some (.int .u16 (a.q : Int)) := cell_on hb204 a3_203
        have a4_204 : w204.cell? ⟨w.heap.size, 4, none⟩ = some (.int .u8 (a.r : Int)) := cell_on hb204 a4_203
        have b0_204 : w204.cell? ⟨w.heap.size + 1, 0, none⟩ = some (.int .u32 (b.s : Int)) := cell_on hb204 b0_203
        have b1_204 : w204.cell? ⟨w.heap.size + 1, 1, none⟩ = some (.int .u32 (b.d : Int)) := cell_on hb204 b1_203
        have b2_204 : w204.cell? ⟨w.heap.size + 1, 2, none⟩ = some (.int .u16 (b.p : Int)) := cell_on hb204 b2_203
        have b3_204 : w204.cell? ⟨w.heap.size + 1, 3, none⟩ = some (.int .u16 (b.q : Int)) := cell_on hb204 b3_203
        have b4_204 : w204.cell? ⟨w.heap.size + 1, 4, none⟩ = some (.int .u8 (b.r : Int)) := cell_on hb204 b4_203
        have hg204_0 : w.heap.size < w204.heap.size := by omega
        have hg204_1 : w.heap.size + 1 < w204.heap.size := by omega
        have hl204 : w.heap.size ≤ w204.heap.size := by omega
        have hw204 : Hid (Below w.heap.size w w204) := hw203.out.trans (hb204.mono (by first | omega | (simp; done) | (simp; omega)))
        clear hb204 a0_203 a1_203 a2_203 a3_203 a4_203 b0_203 b1_203 b2_203 b3_203 b4_203 hg203_0 hg203_1 hw203
        go_wp2_with (fail)
        go_loopw [15] (fun iv wr => ∃ j : Nat, j ≤ k0 ∧ iv = .int .i64 (j : Int) ∧ Hid (Below w204.heap.size w204 wr)) (fun iv _ => k0 - (intOf iv).toNat)
        case atStart => exact ⟨0, by omega, rfl, Below.refl _ _⟩
        case round =>
          obtain ⟨j, hj, rfl, hbw⟩ := hrel
          have a0_r := cell_on1 hbw.out a0_204
          have a1_r := cell_on1 hbw.out a1_204
          have a2_r := cell_on1 hbw.out a2_204
          have a3_r := cell_on1 hbw.out a3_204
          have a4_r := cell_on1 hbw.out a4_204
          have b0_r := cell_on1 hbw.out b0_204
          have b1_r := cell_on1 hbw.out b1_204
          have b2_r := cell_on1 hbw.out b2_204
          have b3_r := cell_on1 hbw.out b3_204
          have b4_r := cell_on1 hbw.out b4_204
          have hzr := hbw.out.size
          by_cases hltj : j < k0
          · have hltj' : (j : Int) < (k0 : Int) := by omega
            have t1 := fun W => hBit a j W oa (by omega)
            have t2 := fun W => hBit b j W ob (by omega)
            rw [← HSame.out j hltj] at t2
            generalize bitH a j = z at *
            go_wp2_with (fail)
            refine (t1 _).mono ?_
            rintro e wb ⟨rfl, hbb⟩
            have b0_s := cell_on1 hbb b0_r
            have b1_s := cell_on1 hbb b1_r
            have b2_s := cell_on1 hbb b2_r
            have b3_s := cell_on1 hbb b3_r
            have b4_s := cell_on1 hbb b4_r
            have hzb := hbb.size
            have HBB : Hid (Below w204.heap.size w204 wb) := hbw.out.trans (hbb.mono hzr)
            clear hbb hbw t1
            go_wp2_with (fail)
            refine (t2 _).mono ?_
            rintro e wc ⟨rfl, hbc⟩
            have HBC : Hid (Below w204.heap.size w204 wc) := HBB.out.trans (hbc.mono (by omega))
            clear hbc HBB t2
            go_wp2_with (fail)
            go_roundw
            case rel => exact ⟨j + 1, by omega, by go_num, HBC.out⟩
            case measure => simp [intOf]; omega
          · obtain rfl : j = k0 := by omega
            have hwy : Hid (Below w.heap.size w wr) := hw204.out.trans (hbw.out.mono hw204.out.size)
            have hly : w.heap.size ≤ wr.heap.size := hwy.out.size
            have hgx_0 : w.heap.size < wr.heap.size := World.block_lt_of_cell? _ _ a0_r
            have hgx_1 : w.heap.size + 1 < wr.heap.size := World.block_lt_of_cell? _ _ b0_r
            clear hbw hw204 a0_204 a1_204 a2_204 a3_204 a4_204 b0_204 b1_204 b2_204 b3_204 b4_204
            go_wp2_with (fail)
            refine (c5 _).mono ?_
            rintro e w251 ⟨rfl, hb251⟩
            have hz251 := hb251.size
            (try simp at hz251)
            have a0_251 : w251.cell? ⟨w.heap.size, 0, none⟩ = some (.int .u32 (a.s : Int)) := cell_on hb251 a0_r
            have a1_251 : w251.cell? ⟨w.heap.size, 1, none⟩ = some (.int .u32 (a.d : Int)) := cell_on hb251 a1_r
            have a2_251 : w251.cell? ⟨w.heap.size, 2, none⟩ = some (.int .u16 (a.p : Int)) := cell_on hb251 a2_r
            have a3_251 : w251.cell? ⟨w.heap.size, 3, none⟩ = some (.int .u16 (a.q : Int)) := cell_on hb251 a3_r
            have a4_251 : w251.cell? ⟨w.heap.size, 4, none⟩ = some (.int .u8 (a.r : Int)) := cell_on hb251 a4_r
            have b0_251 : w251.cell? ⟨w.heap.size + 1, 0, none⟩ = some (.int .u32 (b.s : Int)) := cell_on hb251 b0_r
            have b1_251 : w251.cell? ⟨w.heap.size + 1, 1, none⟩ = some (.int .u32 (b.d : Int)) := cell_on hb251 b1_r
            have b2_251 : w251.cell? ⟨w.heap.size + 1, 2, none⟩ = some (.int .u16 (b.p : Int)) := cell_on hb251 b2_r
            have b3_251 : w251.cell? ⟨w.heap.size + 1, 3, none⟩ = some (.int .u16 (b.q : Int)) := cell_on hb251 b3_r
            have b4_251 : w251.cell? ⟨w.heap.size + 1, 4, none⟩ = some (.int .u8 (b.r : Int)) := cell_on hb251 b4_r
            have hg251_0 : w.heap.size < w251.heap.size := by omega
            have hg251_1 : w.heap.size + 1 < w251.heap.size := by omega
            have hl251 : w.heap.size ≤ w251.heap.size := by omega
            have hw251 : Hid (Below w.heap.size w w251) := hwy.out.trans (hb251.mono (by first | omega | (simp; done) | (simp; omega)))
            clear hb251 a0_r a1_r a2_r a3_r a4_r b0_r b1_r b2_r b3_r b4_r hgx_0 hgx_1 hwy
            go_wp2_with (fail)
            refine (hA _).mono ?_
            rintro e w252 ⟨rfl, hb252⟩
            have hz252 := hb252.size
            (try simp at hz252)
            have a0_252 : w252.cell? ⟨w.heap.size, 0, none⟩ = some (.int .u32 (a.s : Int)) := cell_on hb252 (cell_alloc a0_251)
            have a1_252 : w252.cell? ⟨w.heap.size, 1, none⟩ = some (.int .u32 (a.d : Int)) := cell_on hb252 (cell_alloc a1_251)
            have a2_252 : w252.cell? ⟨w.heap.size, 2, none⟩ = some (.int .u16 (a.p : Int)) := cell_on hb252 (cell_alloc a2_251)
            have a3_252 : w252.cell? ⟨w.heap.size, 3, none⟩ = some (.int .u16 (a.q : Int)) := cell_on hb252 (cell_alloc a3_251)
            have a4_252 : w252.cell? ⟨w.heap.size, 4, none⟩ = some (.int .u8 (a.r : Int)) := cell_on hb252 (cell_alloc a4_251)
            have b0_252 : w252.cell? ⟨w.heap.size + 1, 0, none⟩ = some (.int .u32 (b.s : Int)) := cell_on hb252 (cell_alloc b0_251)
            have b1_252 : w252.cell? ⟨w.heap.size + 1, 1, none⟩ = some (.int .u32 (b.d : Int)) := cell_on hb252 (cell_alloc b1_251)
            have b2_252 : w252.cell? ⟨w.heap.size + 1, 2, none⟩ = some (.int .u16 (b.p : Int)) := cell_on hb252 (cell_alloc b2_251)
            have b3_252 : w252.cell? ⟨w.heap.size + 1, 3, none⟩ = some (.int .u16 (b.q : Int)) := cell_on hb252 (cell_alloc b3_251)
            have b4_252 : w252.cell? ⟨w.heap.size + 1, 4, none⟩ = some (.int .u8 (b.r : Int)) := cell_on hb252 (cell_alloc b4_251)
            have t0_252 : w252.cell? ⟨w251.heap.size, 0, none⟩ = some (.int .u32 (tt.s : Int)) := cell_on hb252 (show (w251.alloc (.cells #[.int .u32 (tt.s : Int), .int .u32 (tt.d : Int), .int .u16 (tt.p : Int), .int .u16 (tt.q : Int), .int .u8 (tt.r : Int)] 25)).cell? ⟨w251.heap.size, 0, none⟩ = some (.int .u32 (tt.s : Int)) from by simp [go_sem])
            have t1_252 : w252.cell? ⟨w251.heap.size, 1, none⟩ = some (.int .u32 (tt.d : Int)) := cell_on hb252 (show (w251.alloc (.cells #[.int .u32 (tt.s : Int), .int .u32 (tt.d : Int), .int .u16 (tt.p : Int), .int .u16 (tt.q : Int), .int .u8 (tt.r : Int)] 25)).cell? ⟨w251.heap.size, 1, none⟩ = some (.int .u32 (tt.d : Int)) from by simp [go_sem])
            have t2_252 : w252.cell? ⟨w251.heap.size, 2, none⟩ = some (.int .u16 (tt.p : Int)) := cell_on hb252 (show (w251.alloc (.cells #[.int .u32 (tt.s : Int), .int .u32 (tt.d : Int), .int .u16 (tt.p : Int), .int .u16 (tt.q : Int), .int .u8 (tt.r : Int)] 25)).cell? ⟨w251.heap.size, 2, none⟩ = some (.int .u16 (tt.p : Int)) from by simp [go_sem])
            have t3_252 : w252.cell? ⟨w251.heap.size, 3, none⟩ = some (.int .u16 (tt.q : Int)) := cell_on hb252 (show (w251.alloc (.cells #[.int .u32 (tt.s : Int), .int .u32 (tt.d : Int), .int .u16 (tt.p : Int), .int .u16 (tt.q : Int), .int .u8 (tt.r : Int)] 25)).cell? ⟨w251.heap.size, 3, none⟩ = some (.int .u16 (tt.q : Int)) from by simp [go_sem])
            have t4_252 : w252.cell? ⟨w251.heap.size, 4, none⟩ = some (.int .u8 (tt.r : Int)) := cell_on hb252 (show (w251.alloc (.cells #[.int .u32 (tt.s : Int), .int .u32 (tt.d : Int), .int .u16 (tt.p : Int), .int .u16 (tt.q : Int), .int .u8 (tt.r : Int)] 25)).cell? ⟨w251.heap.size, 4, none⟩ = some (.int .u8 (tt.r : Int)) from by simp [go_sem])
            have hg252_0 : w.heap.size < w252.heap.size := by omega
            have hg252_1 : w.heap.size + 1 < w252.heap.size := by omega
            have hg252_2 : w251.heap.size < w252.heap.size := by omega
            have hl252 : w.heap.size ≤ w252.heap.size := by omega
            have hw252 : Hid (Below w.heap.size w w252) := (hw251.out.alloc (by first | omega | (simp; done) | (simp; omega)) _).trans (hb252.mono (by first | omega | (simp; done) | (simp; omega)))
            clear hb252 a0_251 a1_251 a2_251 a3_251 a4_251 b0_251 b1_251 b2_251 b3_251 b4_251 hg251_0 hg251_1 hw251
            go_wp2_with (fail)
            refine (c6 _).mono ?_
            rintro e w253 ⟨rfl, hb253⟩
            have hz253 := hb253.size
            (try simp at hz253)
            have a0_253 : w253.cell? ⟨w.heap.size, 0, none⟩ = some (.int .u32 (a.s : Int)) := cell_on hb253 a0_252
            have a1_253 : w253.cell? ⟨w.heap.size, 1, none⟩ = some (.int .u32 (a.d : Int)) := cell_on hb253 a1_252
            have a2_253 : w253.cell? ⟨w.heap.size, 2, none⟩ = some (.int .u16 (a.p : Int)) := cell_on hb253 a2_252
            have a3_253 : w253.cell? ⟨w.heap.size, 3, none⟩ = some (.int .u16 (a.q : Int)) := cell_on hb253 a3_252
            have a4_253 : w253.cell? ⟨w.heap.size, 4, none⟩ = some (.int .u8 (a.r : Int)) := cell_on hb253 a4_252
            have b0_253 : w253.cell? ⟨w.heap.size + 1, 0, none⟩ = some (.int .u32 (b.s : Int)) := cell_on hb253 b0_252
            have b1_253 : w253.cell? ⟨w.heap.size + 1, 1, none⟩ = some (.int .u32 (b.d : Int)) := cell_on hb253 b1_252
            have b2_253 : w253.cell? ⟨w.heap.size + 1, 2, none⟩ = some (.int .u16 (b.p : Int)) := cell_on hb253 b2_252
            have b3_253 : w253.cell? ⟨w.heap.size + 1, 3, none⟩ = some (.int .u16 (b.q : Int)) := cell_on hb253 b3_252
            have b4_253 : w253.cell? ⟨w.heap.size + 1, 4, none⟩ = some (.int .u8 (b.r : Int)) := cell_on hb253 b4_252
            have t0_253 : w253.cell? ⟨w251.heap.size, 0, none⟩ = some (.int .u32 (tt.s : Int)) := cell_on hb253 t0_252
            have t1_253 : w253.cell? ⟨w251.heap.size, 1, none⟩ = some (.int .u32 (tt.d : Int)) := cell_on hb253 t1_252
            have t2_253 : w253.cell? ⟨w251.heap.size, 2, none⟩ = some (.int .u16 (tt.p : Int)) := cell_on hb253 t2_252
            have t3_253 : w253.cell? ⟨w251.heap.size, 3, none⟩ = some (.int .u16 (tt.q : Int)) := cell_on hb253 t3_252
            have t4_253 : w253.cell? ⟨w251.heap.size, 4, none⟩ = some (.int .u8 (tt.r : Int)) := cell_on hb253 t4_252
            have hg253_0 : w.heap.size < w253.heap.size := by omega
            have hg253_1 : w.heap.size + 1 < w253.heap.size := by omega
            have hg253_2 : w251.heap.size < w253.heap.size := by omega
            have hl253 : w.heap.size ≤ w253.heap.size := by omega
            have hw253 : Hid (Below w.heap.size w w253) := hw252.out.trans (hb253.mono (by first | omega | (simp; done) | (simp; omega)))
            clear hb253 a0_252 a1_252 a2_252 a3_252 a4_252 b0_252 b1_252 b2_252 b3_252 b4_252 t0_252 t1_252 t2_252 t3_252 t4_252 hg252_0 hg252_1 hg252_2 hw252
            go_wp2_with (fail)
            refine (c7 _).mono ?_
            rintro e w254 ⟨rfl, hb254⟩
            have hz254 := hb254.size
            (try simp at hz254)
            have a0_254 : w254.cell? ⟨w.heap.size, 0, none⟩ = some (.int .u32 (a.s : Int)) := cell_on hb254 a0_253
            have a1_254 : w254.cell? ⟨w.heap.size, 1, none⟩ = some (.int .u32 (a.d : Int)) := cell_on hb254 a1_253
            have a2_254 : w254.cell? ⟨w.heap.size, 2, none⟩ = some (.int .u16 (a.p : Int)) := cell_on hb254 a2_253
            have a3_254 : w254.cell? ⟨w.heap.size, 3, none⟩ = some (.int .u16 (a.q : Int)) := cell_on hb254 a3_253
            have a4_254 : w254.cell? ⟨w.heap.size, 4, none⟩ = some (.int .u8 (a.r : Int)) := cell_on hb254 a4_253
            have b0_254 : w254.cell? ⟨w.heap.size + 1, 0, none⟩ = some (.int .u32 (b.s : Int)) := cell_on hb254 b0_253
            have b1_254 : w254.cell? ⟨w.heap.size + 1, 1, none⟩ = some (.int .u32 (b.d : Int)) := cell_on hb254 b1_253
            have b2_254 : w254.cell? ⟨w.heap.size + 1, 2, none⟩ = some (.int .u16 (b.p : Int)) := cell_on hb254 b2_253
            have b3_254 : w254.cell? ⟨w.heap.size + 1, 3, none⟩ = some (.int .u16 (b.q : Int)) := cell_on hb254 b3_253
            have b4_254 : w254.cell? ⟨w.heap.size + 1, 4, none⟩ = some (.int .u8 (b.r : Int)) := cell_on hb254 b4_253
            have t0_254 : w254.cell? ⟨w251.heap.size, 0, none⟩ = some (.int .u32 (tt.s : Int)) := cell_on hb254 t0_253
            have t1_254 : w254.cell? ⟨w251.heap.size, 1, none⟩ = some (.int .u32 (tt.d : Int)) := cell_on hb254 t1_253
            have t2_254 : w254.cell? ⟨w251.heap.size, 2, none⟩ = some (.int .u16 (tt.p : Int)) := cell_on hb254 t2_253
            have t3_254 : w254.cell? ⟨w251.heap.size, 3, none⟩ = some (.int .u16 (tt.q : Int)) := cell_on hb254 t3_253
            have t4_254 : w254.cell? ⟨w251.heap.size, 4, none⟩ = some (.int .u8 (tt.r : Int)) := cell_on hb254 t4_253
            have hg254_0 : w.heap.size < w254.heap.size := by omega
            have hg254_1 : w.heap.size + 1 < w254.heap.size := by omega
            have hg254_2 : w251.heap.size < w254.heap.size := by omega
            have hl254 : w.heap.size ≤ w254.heap.size := by omega
            have hw254 : Hid (Below w.heap.size w w254) := hw253.out.trans (hb254.mono (by first | omega | (simp; done) | (simp; omega)))
            clear hb254 a0_253 a1_253 a2_253 a3_253 a4_253 b0_253 b1_253 b2_253 b3_253 b4_253 t0_253 t1_253 t2_253 t3_253 t4_253 hg253_0 hg253_1 hg253_2 hw253
            go_wp2_with (fail)
            go_ret
            exact ⟨ret_same (by simp), hw254.out⟩
  · go_enter Try.func3, Try.ntmps3
    go_wp2_with (fail)
    refine (k1 _).mono ?_
    rintro e w1 ⟨vp, rfl, rp, hb1⟩
    have hz1 := hb1.size
    (try simp at hz1)
    have p_1 : Hid (RowB w1 w.heap.size vp (bytesH a)) := rp.base (by first | omega | (simp; done) | (simp; omega))
    clear rp
    have a0_1 : w1.cell? ⟨w.heap.size, 0, none⟩ = some (.int .u32 (a.s : Int)) := cell_on hb1 (show ((w.alloc (.cells #[.int .u32 (a.s : Int), .int .u32 (a.d : Int), .int .u16 (a.p : Int), .int .u16 (a.q : Int), .int .u8 (a.r : Int)] 25)).alloc (.cells #[.int .u32 (b.s : Int), .int .u32 (b.d : Int), .int .u16 (b.p : Int), .int .u16 (b.q : Int), .int .u8 (b.r : Int)] 25)).cell? ⟨w.heap.size, 0, none⟩ = some (.int .u32 (a.s : Int)) from by simp [go_sem])
    have a1_1 : w1.cell? ⟨w.heap.size, 1, none⟩ = some (.int .u32 (a.d : Int)) := cell_on hb1 (show ((w.alloc (.cells #[.int .u32 (a.s : Int), .int .u32 (a.d : Int), .int .u16 (a.p : Int), .int .u16 (a.q : Int), .int .u8 (a.r : Int)] 25)).alloc (.cells #[.int .u32 (b.s : Int), .int .u32 (b.d : Int), .int .u16 (b.p : Int), .int .u16 (b.q : Int), .int .u8 (b.r : Int)] 25)).cell? ⟨w.heap.size, 1, none⟩ = some (.int .u32 (a.d : Int)) from by simp [go_sem])
    have a2_1 : w1.cell? ⟨w.heap.size, 2, none⟩ = some (.int .u16 (a.p : Int)) := cell_on hb1 (show ((w.alloc (.cells #[.int .u32 (a.s : Int), .int .u32 (a.d : Int), .int .u16 (a.p : Int), .int .u16 (a.q : Int), .int .u8 (a.r : Int)] 25)).alloc (.cells #[.int .u32 (b.s : Int), .int .u32 (b.d : Int), .int .u16 (b.p : Int), .int .u16 (b.q : Int), .int .u8 (b.r : Int)] 25)).cell? ⟨w.heap.size, 2, none⟩ = some (.int .u16 (a.p : Int)) from by simp [go_sem])
    have a3_1 : w1.cell? ⟨w.heap.size, 3, none⟩ = some (.int .u16 (a.q : Int)) := cell_on hb1 (show ((w.alloc (.cells #[.int .u32 (a.s : Int), .int .u32 (a.d : Int), .int .u16 (a.p : Int), .int .u16 (a.q : Int), .int .u8 (a.r : Int)] 25)).alloc (.cells #[.int .u32 (b.s : Int), .int .u32 (b.d : Int), .int .u16 (b.p : Int), .int .u16 (b.q : Int), .int .u8 (b.r : Int)] 25)).cell? ⟨w.heap.size, 3, none⟩ = some (.int .u16 (a.q : Int)) from by simp [go_sem])
    have a4_1 : w1.cell? ⟨w.heap.size, 4, none⟩ = some (.int .u8 (a.r : Int)) := cell_on hb1 (show ((w.alloc (.cells #[.int .u32 (a.s : Int), .int .u32 (a.d : Int), .int .u16 (a.p : Int), .int .u16 (a.q : Int), .int .u8 (a.r : Int)] 25)).alloc (.cells #[.int .u32 (b.s : Int), .int .u32 (b.d : Int), .int .u16 (b.p : Int), .int .u16 (b.q : Int), .int .u8 (b.r : Int)] 25)).cell? ⟨w.heap.size, 4, none⟩ = some (.int .u8 (a.r : Int)) from by simp [go_sem])
    have b0_1 : w1.cell? ⟨w.heap.size + 1, 0, none⟩ = some (.int .u32 (b.s : Int)) := cell_on hb1 (show ((w.alloc (.cells #[.int .u32 (a.s : Int), .int .u32 (a.d : Int), .int .u16 (a.p : Int), .int .u16 (a.q : Int), .int .u8 (a.r : Int)] 25)).alloc (.cells #[.int .u32 (b.s : Int), .int .u32 (b.d : Int), .int .u16 (b.p : Int), .int .u16 (b.q : Int), .int .u8 (b.r : Int)] 25)).cell? ⟨w.heap.size + 1, 0, none⟩ = some (.int .u32 (b.s : Int)) from by simp [go_sem])
    have b1_1 : w1.cell? ⟨w.heap.size + 1, 1, none⟩ = some (.int .u32 (b.d : Int)) := cell_on hb1 (show ((w.alloc (.cells #[.int .u32 (a.s : Int), .int .u32 (a.d : Int), .int .u16 (a.p : Int), .int .u16 (a.q : Int), .int .u8 (a.r : Int)] 25)).alloc (.cells #[.int .u32 (b.s : Int), .int .u32 (b.d : Int), .int .u16 (b.p : Int), .int .u16 (b.q : Int), .int .u8 (b.r : Int)] 25)).cell? ⟨w.heap.size + 1, 1, none⟩ = some (.int .u32 (b.d : Int)) from by simp [go_sem])
    have b2_1 : w1.cell? ⟨w.heap.size + 1, 2, none⟩ = some (.int .u16 (b.p : Int)) := cell_on hb1 (show ((w.alloc (.cells #[.int .u32 (a.s : Int), .int .u32 (a.d : Int), .int .u16 (a.p : Int), .int .u16 (a.q : Int), .int .u8 (a.r : Int)] 25)).alloc (.cells #[.int .u32 (b.s : Int), .int .u32 (b.d : Int), .int .u16 (b.p : Int), .int .u16 (b.q : Int), .int .u8 (b.r : Int)] 25)).cell? ⟨w.heap.size + 1, 2, none⟩ = some (.int .u16 (b.p : Int)) from by simp [go_sem])
    have b3_1 : w1.cell? ⟨w.heap.size + 1, 3, none⟩ = some (.int .u16 (b.q : Int)) := cell_on hb1 (show ((w.alloc (.cells #[.int .u32 (a.s : Int), .int .u32 (a.d : Int), .int .u16 (a.p : Int), .int .u16 (a.q : Int), .int .u8 (a.r : Int)] 25)).alloc (.cells #[.int .u32 (b.s : Int), .int .u32 (b.d : Int), .int .u16 (b.p : Int), .int .u16 (b.q : Int), .int .u8 (b.r : Int)] 25)).cell? ⟨w.heap.size + 1, 3, none⟩ = some (.int .u16 (b.q : Int)) from by simp [go_sem])
    have b4_1 : w1.cell? ⟨w.heap.size + 1, 4, none⟩ = some (.int .u8 (b.r : Int)) := cell_on hb1 (show ((w.alloc (.cells #[.int .u32 (a.s : Int), .int .u32 (a.d : Int), .int .u16 (a.p : Int), .int .u16 (a.q : Int), .int .u8 (a.r : Int)] 25)).alloc (.cells #[.int .u32 (b.s : Int), .int .u32 (b.d : Int), .int .u16 (b.p : Int), .int .u16 (b.q : Int), .int .u8 (b.r : Int)] 25)).cell? ⟨w.heap.size + 1, 4, none⟩ = some (.int .u8 (b.r : Int)) from by simp [go_sem])
    have hg1_0 : w.heap.size < w1.heap.size := by omega
    have hg1_1 : w.heap.size + 1 < w1.heap.size := by omega
    have hl1 : w.heap.size ≤ w1.heap.size := by omega
    have hw1 : Hid (Below w.heap.size w w1) := (((Below.refl _ _).alloc (by first | omega | (simp; done) | (simp; omega)) _).alloc (by first | omega | (simp; done) | (simp; omega)) _).trans (hb1.mono (by first | omega | (simp; done) | (simp; omega)))
    clear hb1
    go_wp2_with (fail)
    refine (k2 _).mono ?_
    rintro e w2 ⟨vq, rfl, rq, hb2⟩
    have hz2 := hb2.size
    (try simp at hz2)
    have q_2 : Hid (RowB w2 w.heap.size vq (bytesH b)) := rq.base (by first | omega | (simp; done) | (simp; omega))
    clear rq
    have a0_2 : w2.cell? ⟨w.heap.size, 0, none⟩ = some (.int .u32 (a.s : Int)) := cell_on hb2 a0_1
    have a1_2 : w2.cell? ⟨w.heap.size, 1, none⟩ = some (.int .u32 (a.d : Int)) := cell_on hb2 a1_1
    have a2_2 : w2.cell? ⟨w.heap.size, 2, none⟩ = some (.int .u16 (a.p : Int)) := cell_on hb2 a2_1
    have a3_2 : w2.cell? ⟨w.heap.size, 3, none⟩ = some (.int .u16 (a.q : Int)) := cell_on hb2 a3_1
    have a4_2 : w2.cell? ⟨w.heap.size, 4, none⟩ = some (.int .u8 (a.r : Int)) := cell_on hb2 a4_1
    have b0_2 : w2.cell? ⟨w.heap.size + 1, 0, none⟩ = some (.int .u32 (b.s : Int)) := cell_on hb2 b0_1
    have b1_2 : w2.cell? ⟨w.heap.size + 1, 1, none⟩ = some (.int .u32 (b.d : Int)) := cell_on hb2 b1_1
    have b2_2 : w2.cell? ⟨w.heap.size + 1, 2, none⟩ = some (.int .u16 (b.p : Int)) := cell_on hb2 b2_1
    have b3_2 : w2.cell? ⟨w.heap.size + 1, 3, none⟩ = some (.int .u16 (b.q : Int)) := cell_on hb2 b3_1
    have b4_2 : w2.cell? ⟨w.heap.size + 1, 4, none⟩ = some (.int .u8 (b.r : Int)) := cell_on hb2 b4_1
    have p_2 : Hid (RowB w2 w.heap.size vp (bytesH a)) := RowB.on p_1.out hb2
    have hg2_0 : w.heap.size < w2.heap.size := by omega
    have hg2_1 : w.heap.size + 1 < w2.heap.size := by omega
    have hl2 : w.heap.size ≤ w2.heap.size := by omega
    have hw2 : Hid (Below w.heap.size w w2) := hw1.out.trans (hb2.mono (by first | omega | (simp; done) | (simp; omega)))
    clear hb2 a0_1 a1_1 a2_1 a3_1 a4_1 b0_1 b1_1 b2_1 b3_1 b4_1 p_1 hg1_0 hg1_1 hw1
    obtain ⟨ad1, cap1, hv1, hca1, hat1⟩ := p_2.out.form
    rw [bytesH_length] at hv1 hca1
    subst hv1
    obtain ⟨g1, rfl, hgl1, hgu1, hbc1⟩ := hat1 (by rw [bytesH_length]; omega)
    have HX1 : Hid (∀ k (hk : k < 13), w2.cell? ⟨g1, k, none⟩ = some (.int .u8 ((bytesH a).getD k 0 : Int))) := fun k hk => by rw [hbc1 k (by rw [bytesH_length]; omega), List.getD_eq_getElem?_getD, List.getElem?_eq_getElem (by rw [bytesH_length]; omega)]; rfl
    clear hat1 hbc1 p_2
    obtain ⟨ad2, cap2, hv2, hca2, hat2⟩ := q_2.out.form
    rw [bytesH_length] at hv2 hca2
    subst hv2
    obtain ⟨g2, rfl, hgl2, hgu2, hbc2⟩ := hat2 (by rw [bytesH_length]; omega)
    have HX2 : Hid (∀ k (hk : k < 13), w2.cell? ⟨g2, k, none⟩ = some (.int .u8 ((bytesH b).getD k 0 : Int))) := fun k hk => by rw [hbc2 k (by rw [bytesH_length]; omega), List.getD_eq_getElem?_getD, List.getElem?_eq_getElem (by rw [bytesH_length]; omega)]; rfl
    clear hat2 hbc2 q_2
    go_wp2_with (fail)
    obtain ⟨W, hW⟩ : ∃ W, W = w2 := ⟨_, rfl⟩
    rw [← hW] at HX1 HX2 hw2
    have a0_W : W.cell? ⟨w.heap.size, 0, none⟩ = some (.int .u32 (a.s : Int)) := by rw [hW]; exact a0_2
    have a1_W : W.cell? ⟨w.heap.size, 1, none⟩ = some (.int .u32 (a.d : Int)) := by rw [hW]; exact a1_2
    have a2_W : W.cell? ⟨w.heap.size, 2, none⟩ = some (.int .u16 (a.p : Int)) := by rw [hW]; exact a2_2
    have a3_W : W.cell? ⟨w.heap.size, 3, none⟩ = some (.int .u16 (a.q : Int)) := by rw [hW]; exact a3_2
    have a4_W : W.cell? ⟨w.heap.size, 4, none⟩ = some (.int .u8 (a.r : Int)) := by rw [hW]; exact a4_2
    have b0_W : W.cell? ⟨w.heap.size + 1, 0, none⟩ = some (.int .u32 (b.s : Int)) := by rw [hW]; exact b0_2
    have b1_W : W.cell? ⟨w.heap.size + 1, 1, none⟩ = some (.int .u32 (b.d : Int)) := by rw [hW]; exact b1_2
    have b2_W : W.cell? ⟨w.heap.size + 1, 2, none⟩ = some (.int .u16 (b.p : Int)) := by rw [hW]; exact b2_2
    have b3_W : W.cell? ⟨w.heap.size + 1, 3, none⟩ = some (.int .u16 (b.q : Int)) := by rw [hW]; exact b3_2
    have b4_W : W.cell? ⟨w.heap.size + 1, 4, none⟩ = some (.int .u8 (b.r : Int)) := by rw [hW]; exact b4_2
    have HWw : Hid (Below w.heap.size w W) := hw2.out
    rw [← hW]
    clear hW hgu1 hgu2 hw2 a0_2 a1_2 a2_2 a3_2 a4_2 b0_2 b1_2 b2_2 b3_2 b4_2
    go_loopw [7, 8] (fun cv iv wr => ∃ k d : Nat, k ≤ 13 ∧ iv = .int .i64 (k : Int) ∧ cv = .int .i64 (lexC (bytesH a) (bytesH b) k) ∧ wr = W.drewN d) (fun _ iv _ => 13 - (intOf iv).toNat)
    case atStart => exact ⟨0, 0, by omega, rfl, rfl, rfl⟩
    case round =>
      obtain ⟨k, d, hk, rfl, rfl, rfl⟩ := hrel
      by_cases hlt : k < 13
      · have hlt' : (k : Int) < 13 := by omega
        have hk0 : (0 : Int) ≤ (k : Int) := by omega
        by_cases hc0 : lexC (bytesH a) (bytesH b) k = 0
        · have x0 := HX1.out k hlt
          have y0 := HX2.out k hlt
          have HS : Hid (lexC (bytesH a) (bytesH b) (k + 1) = if (bytesH a).getD k 0 < (bytesH b).getD k 0 then -1 else if (bytesH b).getD k 0 < (bytesH a).getD k 0 then 1 else 0) := by
            show (if lexC (bytesH a) (bytesH b) k ≠ 0 then _ else _) = _
            rw [if_neg (by simpa using hc0)]
          rw [hc0]
          generalize (bytesH a).getD k 0 = X at *
          generalize (bytesH b).getD k 0 = Y at *
          clear hc0
          rcases Nat.lt_trichotomy X Y with hc | hc | hc
          · rw [if_pos hc] at HS
            have hc' : (X : Int) < (Y : Int) := by omega
            have hc2 : ¬ (Y : Int) < (X : Int) := by omega
            go_wp2
            go_quiet (fail)
            go_wp2
            go_quiet (fail)
            go_wp2
            go_roundw
            case rel => exact ⟨k + 1, _, by omega, by go_num, by rw [HS.out], rfl⟩
            case measure => simp [intOf]; omega
          · subst hc
            rw [if_neg (by omega), if_neg (by omega)] at HS
            have hn : ¬ (X : Int) < (X : Int) := by omega
            go_wp2
            go_quiet (fail)
            go_wp2
            go_quiet (fail)
            go_wp2
            go_roundw
            case rel => exact ⟨k + 1, _, by omega, by go_num, by rw [HS.out], rfl⟩
            case measure => simp [intOf]; omega
          · rw [if_neg (by omega), if_pos hc] at HS
            have hc' : (Y : Int) < (X : Int) := by omega
            have hc2 : ¬ (X : Int) < (Y : Int) := by omega
            go_wp2
            go_quiet (fail)
            go_wp2
            go_quiet (fail)
            go_wp2
            go_roundw
            case rel => exact ⟨k + 1, _, by omega, by go_num, by rw [HS.out], rfl⟩
            case measure => simp [intOf]; omega
        · have hE := HLex.out k (by omega) (.inr hc0)
          rw [hE]
          clear hE hc0 HX1 HX2
          obtain ⟨wx, hwx⟩ : ∃ wx, wx = W.drewN d := ⟨_, rfl⟩
          rw [← hwx]
          have a0_x : wx.cell? ⟨w.heap.size, 0, none⟩ = some (.int .u32 (a.s : Int)) := by rw [hwx]; simpa using a0_W
          have a1_x : wx.cell? ⟨w.heap.size, 1, none⟩ = some (.int .u32 (a.d : Int)) := by rw [hwx]; simpa using a1_W
          have a2_x : wx.cell? ⟨w.heap.size, 2, none⟩ = some (.int .u16 (a.p : Int)) := by rw [hwx]; simpa using a2_W
          have a3_x : wx.cell? ⟨w.heap.size, 3, none⟩ = some (.int .u16 (a.q : Int)) := by rw [hwx]; simpa using a3_W
          have a4_x : wx.cell? ⟨w.heap.size, 4, none⟩ = some (.int .u8 (a.r : Int)) := by rw [hwx]; simpa using a4_W
          have b0_x : wx.cell? ⟨w.heap.size + 1, 0, none⟩ = some (.int .u32 (b.s : Int)) := by rw [hwx]; simpa using b0_W
          have b1_x : wx.cell? ⟨w.heap.size + 1, 1, none⟩ = some (.int .u32 (b.d : Int)) := by rw [hwx]; simpa using b1_W
          have b2_x : wx.cell? ⟨w.heap.size + 1, 2, none⟩ = some (.int .u16 (b.p : Int)) := by rw [hwx]; simpa using b2_W
          have b3_x : wx.cell? ⟨w.heap.size + 1, 3, none⟩ = some (.int .u16 (b.q : Int)) := by rw [hwx]; simpa using b3_W
          have b4_x : wx.cell? ⟨w.heap.size + 1, 4, none⟩ = some (.int .u8 (b.r : Int)) := by rw [hwx]; simpa using b4_W
          have hwr : Hid (Below w.heap.size w wx) := by rw [hwx]; exact bel_drewN HWw.out d
          have hlr : w.heap.size ≤ wx.heap.size := hwr.out.size
          have hgx_0 : w.heap.size < wx.heap.size := World.block_lt_of_cell? _ _ a0_x
          have hgx_1 : w.heap.size + 1 < wx.heap.size := World.block_lt_of_cell? _ _ b0_x
          clear hwx HWw a0_W a1_W a2_W a3_W a4_W b0_W b1_W b2_W b3_W b4_W
          go_wp2_with (fail)
          refine (c1 _).mono ?_
          rintro e w101 ⟨rfl, hb101⟩
          have hz101 := hb101.size
          (try simp at hz101)
          have a0_101 : w101.cell? ⟨w.heap.size, 0, none⟩ = some (.int .u32 (a.s : Int)) := cell_on hb101 a0_x
          have a1_101 : w101.cell? ⟨w.heap.size, 1, none⟩ = some (.int .u32 (a.d : Int)) := cell_on hb101 a1_x
          have a2_101 : w101.cell? ⟨w.heap.size, 2, none⟩ = some (.int .u16 (a.p : Int)) := cell_on hb101 a2_x
          have a3_101 : w101.cell? ⟨w.heap.size, 3, none⟩ = some (.int .u16 (a.q : Int)) := cell_on hb101 a3_x
          have a4_101 : w101.cell? ⟨w.heap.size, 4, none⟩ = some (.int .u8 (a.r : Int)) := cell_on hb101 a4_x
          have b0_101 : w101.cell? ⟨w.heap.size + 1, 0, none⟩ = some (.int .u32 (b.s : Int)) := cell_on hb101 b0_x
          have b1_101 : w101.cell? ⟨w.heap.size + 1, 1, none⟩ = some (.int .u32 (b.d : Int)) := cell_on hb101 b1_x
          have b2_101 : w101.cell? ⟨w.heap.size + 1, 2, none⟩ = some (.int .u16 (b.p : Int)) := cell_on hb101 b2_x
          have b3_101 : w101.cell? ⟨w.heap.size + 1, 3, none⟩ = some (.int .u16 (b.q : Int)) := cell_on hb101 b3_x
          have b4_101 : w101.cell? ⟨w.heap.size + 1, 4, none⟩ = some (.int .u8 (b.r : Int)) := cell_on hb101 b4_x
          have hg101_0 : w.heap.size < w101.heap.size := by omega
          have hg101_1 : w.heap.size + 1 < w101.heap.size := by omega
          have hl101 : w.heap.size ≤ w101.heap.size := by omega
          have hw101 : Hid (Below w.heap.size w w101) := hwr.out.trans (hb101.mono (by first | omega | (simp; done) | (simp; omega)))
          clear hb101 a0_x a1_x a2_x a3_x a4_x b0_x b1_x b2_x b3_x b4_x hgx_0 hgx_1 hwr
          go_wp2_with (fail)
          refine (c2 _).mono ?_
          rintro e w102 ⟨rfl, hb102⟩
          have hz102 := hb102.size
          (try simp at hz102)
          have a0_102 : w102.cell? ⟨w.heap.size, 0, none⟩ = some (.int .u32 (a.s : Int)) := cell_on hb102 a0_101
          have a1_102 : w102.cell? ⟨w.heap.size, 1, none⟩ = some (.int .u32 (a.d : Int)) := cell_on hb102 a1_101
          have a2_102 : w102.cell? ⟨w.heap.size, 2, none⟩ = some (.int .u16 (a.p : Int)) := cell_on hb102 a2_101
          have a3_102 : w102.cell? ⟨w.heap.size, 3, none⟩ = some (.int .u16 (a.q : Int)) := cell_on hb102 a3_101
          have a4_102 : w102.cell? ⟨w.heap.size, 4, none⟩ = some (.int .u8 (a.r : Int)) := cell_on hb102 a4_101
          have b0_102 : w102.cell? ⟨w.heap.size + 1, 0, none⟩ = some (.int .u32 (b.s : Int)) := cell_on hb102 b0_101
          have b1_102 : w102.cell? ⟨w.heap.size + 1, 1, none⟩ = some (.int .u32 (b.d : Int)) := cell_on hb102 b1_101
          have b2_102 : w102.cell? ⟨w.heap.size + 1, 2, none⟩ = some (.int .u16 (b.p : Int)) := cell_on hb102 b2_101
          have b3_102 : w102.cell? ⟨w.heap.size + 1, 3, none⟩ = some (.int .u16 (b.q : Int)) := cell_on hb102 b3_101
          have b4_102 : w102.cell? ⟨w.heap.size + 1, 4, none⟩ = some (.int .u8 (b.r : Int)) := cell_on hb102 b4_101
          have hg102_0 : w.heap.size < w102.heap.size := by omega
          have hg102_1 : w.heap.size + 1 < w102.heap.size := by omega
          have hl102 : w.heap.size ≤ w102.heap.size := by omega
          have hw102 : Hid (Below w.heap.size w w102) := hw101.out.trans (hb102.mono (by first | omega | (simp; done) | (simp; omega)))
          clear hb102 a0_101 a1_101 a2_101 a3_101 a4_101 b0_101 b1_101 b2_101 b3_101 b4_101 hg101_0 hg101_1 hw101
          go_wp2_with (fail)
          refine (c3 _).mono ?_
          rintro e w103 ⟨rfl, hb103⟩
          have hz103 := hb103.size
          (try simp at hz103)
          have a0_103 : w103.cell? ⟨w.heap.size, 0, none⟩ = some (.int .u32 (a.s : Int)) := cell_on hb103 a0_102
          have a1_103 : w103.cell? ⟨w.heap.size, 1, none⟩ = some (.int .u32 (a.d : Int)) := cell_on hb103 a1_102
          have a2_103 : w103.cell? ⟨w.heap.size, 2, none⟩ = some (.int .u16 (a.p : Int)) := cell_on hb103 a2_102
          have a3_103 : w103.cell? ⟨w.heap.size, 3, none⟩ = some (.int .u16 (a.q : Int)) := cell_on hb103 a3_102
          have a4_103 : w103.cell? ⟨w.heap.size, 4, none⟩ = some (.int .u8 (a.r : Int)) := cell_on hb103 a4_102
          have b0_103 : w103.cell? ⟨w.heap.size + 1, 0, none⟩ = some (.int .u32 (b.s : Int)) := cell_on hb103 b0_102
          have b1_103 : w103.cell? ⟨w.heap.size + 1, 1, none⟩ = some (.int .u32 (b.d : Int)) := cell_on hb103 b1_102
          have b2_103 : w103.cell? ⟨w.heap.size + 1, 2, none⟩ = some (.int .u16 (b.p : Int)) := cell_on hb103 b2_102
          have b3_103 : w103.cell? ⟨w.heap.size + 1, 3, none⟩ = some (.int .u16 (b.q : Int)) := cell_on hb103 b3_102
          have b4_103 : w103.cell? ⟨w.heap.size + 1, 4, none⟩ = some (.int .u8 (b.r : Int)) := cell_on hb103 b4_102
          have hg103_0 : w.heap.size < w103.heap.size := by omega
          have hg103_1 : w.heap.size + 1 < w103.heap.size := by omega
          have hl103 : w.heap.size ≤ w103.heap.size := by omega
          have hw103 : Hid (Below w.heap.size w w103) := hw102.out.trans (hb103.mono (by first | omega | (simp; done) | (simp; omega)))
          clear hb103 a0_102 a1_102 a2_102 a3_102 a4_102 b0_102 b1_102 b2_102 b3_102 b4_102 hg102_0 hg102_1 hw102
          go_wp2_with (fail)
          refine (c4 _).mono ?_
          rintro e w104 ⟨rfl, hb104⟩
          have hz104 := hb104.size
          (try simp at hz104)
          have a0_104 : w104.cell? ⟨w.heap.size, 0, none⟩ = some (.int .u32 (a.s : Int)) := cell_on hb104 a0_103
          have a1_104 : w104.cell? ⟨w.heap.size, 1, none⟩ = some (.int .u32 (a.d : Int)) := cell_on hb104 a1_103
          have a2_104 : w104.cell? ⟨w.heap.size, 2, none⟩ = some (.int .u16 (a.p : Int)) := cell_on hb104 a2_103
          have a3_104 : w104.cell? ⟨w.heap.size, 3, none⟩ = some (.int .u16 (a.q : Int)) := cell_on hb104 a3_103
          have a4_104 : w104.cell? ⟨w.heap.size, 4, none⟩ = some (.int .u8 (a.r : Int)) := cell_on hb104 a4_103
          have b0_104 : w104.cell? ⟨w.heap.size + 1, 0, none⟩ = some (.int .u32 (b.s : Int)) := cell_on hb104 b0_103
          have b1_104 : w104.cell? ⟨w.heap.size + 1, 1, none⟩ = some (.int .u32 (b.d : Int)) := cell_on hb104 b1_103
          have b2_104 : w104.cell? ⟨w.heap.size + 1, 2, none⟩ = some (.int .u16 (b.p : Int)) := cell_on hb104 b2_103
          have b3_104 : w104.cell? ⟨w.heap.size + 1, 3, none⟩ = some (.int .u16 (b.q : Int)) := cell_on hb104 b3_103
          have b4_104 : w104.cell? ⟨w.heap.size + 1, 4, none⟩ = some (.int .u8 (b.r : Int)) := cell_on hb104 b4_103
          have hg104_0 : w.heap.size < w104.heap.size := by omega
          have hg104_1 : w.heap.size + 1 < w104.heap.size := by omega
          have hl104 : w.heap.size ≤ w104.heap.size := by omega
          have hw104 : Hid (Below w.heap.size w w104) := hw103.out.trans (hb104.mono (by first | omega | (simp; done) | (simp; omega)))
          clear hb104 a0_103 a1_103 a2_103 a3_103 a4_103 b0_103 b1_103 b2_103 b3_103 b4_103 hg103_0 hg103_1 hw103
          go_wp2_with (fail)
          go_loopw [15] (fun iv wr => ∃ j : Nat, j ≤ k0 ∧ iv = .int .i64 (j : Int) ∧ Hid (Below w104.heap.size w104 wr)) (fun iv _ => k0 - (intOf iv).toNat)
          case atStart => exact ⟨0, by omega, rfl, Below.refl _ _⟩
          case round =>
            obtain ⟨j, hj, rfl, hbw⟩ := hrel
            have a0_r := cell_on1 hbw.out a0_104
            have a1_r := cell_on1 hbw.out a1_104
            have a2_r := cell_on1 hbw.out a2_104
            have a3_r := cell_on1 hbw.out a3_104
            have a4_r := cell_on1 hbw.out a4_104
            have b0_r := cell_on1 hbw.out b0_104
            have b1_r := cell_on1 hbw.out b1_104
            have b2_r := cell_on1 hbw.out b2_104
            have b3_r := cell_on1 hbw.out b3_104
            have b4_r := cell_on1 hbw.out b4_104
            have hzr := hbw.out.size
            by_cases hltj : j < k0
            · have hltj' : (j : Int) < (k0 : Int) := by omega
              have t1 := fun W => hBit a j W oa (by omega)
              have t2 := fun W => hBit b j W ob (by omega)
              rw [← HSame.out j hltj] at t2
              generalize bitH a j = z at *
              go_wp2_with (fail)
              refine (t1 _).mono ?_
              rintro e wb ⟨rfl, hbb⟩
              have b0_s := cell_on1 hbb b0_r
              have b1_s := cell_on1 hbb b1_r
              have b2_s := cell_on1 hbb b2_r
              have b3_s := cell_on1 hbb b3_r
              have b4_s := cell_on1 hbb b4_r
              have hzb := hbb.size
              have HBB : Hid (Below w104.heap.size w104 wb) := hbw.out.trans (hbb.mono hzr)
              clear hbb hbw t1
              go_wp2_with (fail)
              refine (t2 _).mono ?_
              rintro e wc ⟨rfl, hbc⟩
              have HBC : Hid (Below w104.heap.size w104 wc) := HBB.out.trans (hbc.mono (by omega))
              clear hbc HBB t2
              go_wp2_with (fail)
              go_roundw
              case rel => exact ⟨j + 1, by omega, by go_num, HBC.out⟩
              case measure => simp [intOf]; omega
            · obtain rfl : j = k0 := by omega
              have hwy : Hid (Below w.heap.size w wr) := hw104.out.trans (hbw.out.mono hw104.out.size)
              have hly : w.heap.size ≤ wr.heap.size := hwy.out.size
              have hgx_0 : w.heap.size < wr.heap.size := World.block_lt_of_cell? _ _ a0_r
              have hgx_1 : w.heap.size + 1 < wr.heap.size := World.block_lt_of_cell? _ _ b0_r
              clear hbw hw104 a0_104 a1_104 a2_104 a3_104 a4_104 b0_104 b1_104 b2_104 b3_104 b4_104
              go_wp2_with (fail)
              refine (c5 _).mono ?_
              rintro e w151 ⟨rfl, hb151⟩
              have hz151 := hb151.size
              (try simp at hz151)
              have a0_151 : w151.cell? ⟨w.heap.size, 0, none⟩ = some (.int .u32 (a.s : Int)) := cell_on hb151 a0_r
              have a1_151 : w151.cell? ⟨w.heap.size, 1, none⟩ = some (.int .u32 (a.d : Int)) := cell_on hb151 a1_r
              have a2_151 : w151.cell? ⟨w.heap.size, 2, none⟩ = some (.int .u16 (a.p : Int)) := cell_on hb151 a2_r
              have a3_151 : w151.cell? ⟨w.heap.size, 3, none⟩ = some (.int .u16 (a.q : Int)) := cell_on hb151 a3_r
              have a4_151 : w151.cell? ⟨w.heap.size, 4, none⟩ = some (.int .u8 (a.r : Int)) := cell_on hb151 a4_r
              have b0_151 : w151.cell? ⟨w.heap.size + 1, 0, none⟩ = some (.int .u32 (b.s : Int)) := cell_on hb151 b0_r
              have b1_151 : w151.cell? ⟨w.heap.size + 1, 1, none⟩ = some (.int .u32 (b.d : Int)) := cell_on hb151 b1_r
              have b2_151 : w151.cell? ⟨w.heap.size + 1, 2, none⟩ = some (.int .u16 (b.p : Int)) := cell_on hb151 b2_r
              have b3_151 : w151.cell? ⟨w.heap.size + 1, 3, none⟩ = some (.int .u16 (b.q : Int)) := cell_on hb151 b3_r
              have b4_151 : w151.cell? ⟨w.heap.size + 1, 4, none⟩ = some (.int .u8 (b.r : Int)) := cell_on hb151 b4_r
              have hg151_0 : w.heap.size < w151.heap.size := by omega
              have hg151_1 : w.heap.size + 1 < w151.heap.size := by omega
              have hl151 : w.heap.size ≤ w151.heap.size := by omega
              have hw151 : Hid (Below w.heap.size w w151) := hwy.out.trans (hb151.mono (by first | omega | (simp; done) | (simp; omega)))
              clear hb151 a0_r a1_r a2_r a3_r a4_r b0_r b1_r b2_r b3_r b4_r hgx_0 hgx_1 hwy
              go_wp2_with (fail)
              refine (hA _).mono ?_
              rintro e w152 ⟨rfl, hb152⟩
              have hz152 := hb152.size
              (try simp at hz152)
              have a0_152 : w152.cell? ⟨w.heap.size, 0, none⟩ = some (.int .u32 (a.s : Int)) := cell_on hb152 (cell_alloc a0_151)
              have a1_152 : w152.cell? ⟨w.heap.size, 1, none⟩ = some (.int .u32 (a.d : Int)) := cell_on hb152 (cell_alloc a1_151)
              have a2_152 : w152.cell? ⟨w.heap.size, 2, none⟩ = some (.int .u16 (a.p : Int)) := cell_on hb152 (cell_alloc a2_151)
              have a3_152 : w152.cell? ⟨w.heap.size, 3, none⟩ = some (.int .u16 (a.q : Int)) := cell_on hb152 (cell_alloc a3_151)
              have a4_152 : w152.cell? ⟨w.heap.size, 4, none⟩ = some (.int .u8 (a.r : Int)) := cell_on hb152 (cell_alloc a4_151)
              have b0_152 : w152.cell? ⟨w.heap.size + 1, 0, none⟩ = some (.int .u32 (b.s : Int)) := cell_on hb152 (cell_alloc b0_151)
              have b1_152 : w152.cell? ⟨w.heap.size + 1, 1, none⟩ = some (.int .u32 (b.d : Int)) := cell_on hb152 (cell_alloc b1_151)
              have b2_152 : w152.cell? ⟨w.heap.size + 1, 2, none⟩ = some (.int .u16 (b.p : Int)) := cell_on hb152 (cell_alloc b2_151)
              have b3_152 : w152.cell? ⟨w.heap.size + 1, 3, none⟩ = some (.int .u16 (b.q : Int)) := cell_on hb152 (cell_alloc b3_151)
              have b4_152 : w152.cell? ⟨w.heap.size + 1, 4, none⟩ = some (.int .u8 (b.r : Int)) := cell_on hb152 (cell_alloc b4_151)
              have t0_152 : w152.cell? ⟨w151.heap.size, 0, none⟩ = some (.int .u32 (tt.s : Int)) := cell_on hb152 (show (w151.alloc (.cells #[.int .u32 (tt.s : Int), .int .u32 (tt.d : Int), .int .u16 (tt.p : Int), .int .u16 (tt.q : Int), .int .u8 (tt.r : Int)] 25)).cell? ⟨w151.heap.size, 0, none⟩ = some (.int .u32 (tt.s : Int)) from by simp [go_sem])
              have t1_152 : w152.cell? ⟨w151.heap.size, 1, none⟩ = some (.int .u32 (tt.d : Int)) := cell_on hb152 (show (w151.alloc (.cells #[.int .u32 (tt.s : Int), .int .u32 (tt.d : Int), .int .u16 (tt.p : Int), .int .u16 (tt.q : Int), .int .u8 (tt.r : Int)] 25)).cell? ⟨w151.heap.size, 1, none⟩ = some (.int .u32 (tt.d : Int)) from by simp [go_sem])
              have t2_152 : w152.cell? ⟨w151.heap.size, 2, none⟩ = some (.int .u16 (tt.p : Int)) := cell_on hb152 (show (w151.alloc (.cells #[.int .u32 (tt.s : Int), .int .u32 (tt.d : Int), .int .u16 (tt.p : Int), .int .u16 (tt.q : Int), .int .u8 (tt.r : Int)] 25)).cell? ⟨w151.heap.size, 2, none⟩ = some (.int .u16 (tt.p : Int)) from by simp [go_sem])
              have t3_152 : w152.cell? ⟨w151.heap.size, 3, none⟩ = some (.int .u16 (tt.q : Int)) := cell_on hb152 (show (w151.alloc (.cells #[.int .u32 (tt.s : Int), .int .u32 (tt.d : Int), .int .u16 (tt.p : Int), .int .u16 (tt.q : Int), .int .u8 (tt.r : Int)] 25)).cell? ⟨w151.heap.size, 3, none⟩ = some (.int .u16 (tt.q : Int)) from by simp [go_sem])
              have t4_152 : w152.cell? ⟨w151.heap.size, 4, none⟩ = some (.int .u8 (tt.r : Int)) := cell_on hb152 (show (w151.alloc (.cells #[.int .u32 (tt.s : Int), .int .u32 (tt.d : Int), .int .u16 (tt.p : Int), .int .u16 (tt.q : Int), .int .u8 (tt.r : Int)] 25)).cell? ⟨w151.heap.size, 4, none⟩ = some (.int .u8 (tt.r : Int)) from by simp [go_sem])
              have hg152_0 : w.heap.size < w152.heap.size := by omega
              have hg152_1 : w.heap.size + 1 < w152.heap.size := by omega
              have hg152_2 : w151.heap.size < w152.heap.size := by omega
              have hl152 : w.heap.size ≤ w152.heap.size := by omega
              have hw152 : Hid (Below w.heap.size w w152) := (hw151.out.alloc (by first | omega | (simp; done) | (simp; omega)) _).trans (hb152.mono (by first | omega | (simp; done) | (simp; omega)))
              clear hb152 a0_151 a1_151 a2_151 a3_151 a4_151 b0_151 b1_151 b2_151 b3_151 b4_151 hg151_0 hg151_1 hw151
              go_wp2_with (fail)
              refine (c6 _).mono ?_
              rintro e w153 ⟨rfl, hb153⟩
              have hz153 := hb153.size
              (try simp at hz153)
              have a0_153 : w153.cell? ⟨w.heap.size, 0, none⟩ = some (.int .u32 (a.s : Int)) := cell_on hb153 a0_152
              have a1_153 : w153.cell? ⟨w.heap.size, 1, none⟩ = some (.int .u32 (a.d : Int)) := cell_on hb153 a1_152
              have a2_153 : w153.cell? ⟨w.heap.size, 2, none⟩ = some (.int .u16 (a.p : Int)) := cell_on hb153 a2_152
              have a3_153 : w153.cell? ⟨w.heap.size, 3, none⟩ = some (.int .u16 (a.q : Int)) := cell_on hb153 a3_152
              have a4_153 : w153.cell? ⟨w.heap.size, 4, none⟩ = some (.int .u8 (a.r : Int)) := cell_on hb153 a4_152
              have b0_153 : w153.cell? ⟨w.heap.size + 1, 0, none⟩ = some (.int .u32 (b.s : Int)) := cell_on hb153 b0_152
              have b1_153 : w153.cell? ⟨w.heap.size + 1, 1, none⟩ = some (.int .u32 (b.d : Int)) := cell_on hb153 b1_152
              have b2_153 : w153.cell? ⟨w.heap.size + 1, 2, none⟩ = some (.int .u16 (b.p : Int)) := cell_on hb153 b2_152
              have b3_153 : w153.cell? ⟨w.heap.size + 1, 3, none⟩ = some (.int .u16 (b.q : Int)) := cell_on hb153 b3_152
              have b4_153 : w153.cell? ⟨w.heap.size + 1, 4, none⟩ = some (.int .u8 (b.r : Int)) := cell_on hb153 b4_152
              have t0_153 : w153.cell? ⟨w151.heap.size, 0, none⟩ = some (.int .u32 (tt.s : Int)) := cell_on hb153 t0_152
              have t1_153 : w153.cell? ⟨w151.heap.size, 1, none⟩ = some (.int .u32 (tt.d : Int)) := cell_on hb153 t1_152
              have t2_153 : w153.cell? ⟨w151.heap.size, 2, none⟩ = some (.int .u16 (tt.p : Int)) := cell_on hb153 t2_152
              have t3_153 : w153.cell? ⟨w151.heap.size, 3, none⟩ = some (.int .u16 (tt.q : Int)) := cell_on hb153 t3_152
              have t4_153 : w153.cell? ⟨w151.heap.size, 4, none⟩ = some (.int .u8 (tt.r : Int)) := cell_on hb153 t4_152
              have hg153_0 : w.heap.size < w153.heap.size := by omega
              have hg153_1 : w.heap.size + 1 < w153.heap.size := by omega
              have hg153_2 : w151.heap.size < w153.heap.size := by omega
              have hl153 : w.heap.size ≤ w153.heap.size := by omega
              have hw153 : Hid (Below w.heap.size w w153) := hw152.out.trans (hb153.mono (by first | omega | (simp; done) | (simp; omega)))
              clear hb153 a0_152 a1_152 a2_152 a3_152 a4_152 b0_152 b1_152 b2_152 b3_152 b4_152 t0_152 t1_152 t2_152 t3_152 t4_152 hg152_0 hg152_1 hg152_2 hw152
              go_wp2_with (fail)
              refine (c7 _).mono ?_
              rintro e w154 ⟨rfl, hb154⟩
              have hz154 := hb154.size
              (try simp at hz154)
              have a0_154 : w154.cell? ⟨w.heap.size, 0, none⟩ = some (.int .u32 (a.s : Int)) := cell_on hb154 a0_153
              have a1_154 : w154.cell? ⟨w.heap.size, 1, none⟩ = some (.int .u32 (a.d : Int)) := cell_on hb154 a1_153
              have a2_154 : w154.cell? ⟨w.heap.size, 2, none⟩ = some (.int .u16 (a.p : Int)) := cell_on hb154 a2_153
              have a3_154 : w154.cell? ⟨w.heap.size, 3, none⟩ = some (.int .u16 (a.q : Int)) := cell_on hb154 a3_153
              have a4_154 : w154.cell? ⟨w.heap.size, 4, none⟩ = some (.int .u8 (a.r : Int)) := cell_on hb154 a4_153
              have b0_154 : w154.cell? ⟨w.heap.size + 1, 0, none⟩ = some (.int .u32 (b.s : Int)) := cell_on hb154 b0_153
              have b1_154 : w154.cell? ⟨w.heap.size + 1, 1, none⟩ = some (.int .u32 (b.d : Int)) := cell_on hb154 b1_153
              have b2_154 : w154.cell? ⟨w.heap.size + 1, 2, none⟩ = some (.int .u16 (b.p : Int)) := cell_on hb154 b2_153
              have b3_154 : w154.cell? ⟨w.heap.size + 1, 3, none⟩ = some (.int .u16 (b.q : Int)) := cell_on hb154 b3_153
              have b4_154 : w154.cell? ⟨w.heap.size + 1, 4, none⟩ = some (.int .u8 (b.r : Int)) := cell_on hb154 b4_153
              have t0_154 : w154.cell? ⟨w151.heap.size, 0, none⟩ = some (.int .u32 (tt.s : Int)) := cell_on hb154 t0_153
              have t1_154 : w154.cell? ⟨w151.heap.size, 1, none⟩ = some (.int .u32 (tt.d : Int)) := cell_on hb154 t1_153
              have t2_154 : w154.cell? ⟨w151.heap.size, 2, none⟩ = some (.int .u16 (tt.p : Int)) := cell_on hb154 t2_153
              have t3_154 : w154.cell? ⟨w151.heap.size, 3, none⟩ = some (.int .u16 (tt.q : Int)) := cell_on hb154 t3_153
              have t4_154 : w154.cell? ⟨w151.heap.size, 4, none⟩ = some (.int .u8 (tt.r : Int)) := cell_on hb154 t4_153
              have hg154_0 : w.heap.size < w154.heap.size := by omega
              have hg154_1 : w.heap.size + 1 < w154.heap.size := by omega
              have hg154_2 : w151.heap.size < w154.heap.size := by omega
              have hl154 : w.heap.size ≤ w154.heap.size := by omega
              have hw154 : Hid (Below w.heap.size w w154) := hw153.out.trans (hb154.mono (by first | omega | (simp; done) | (simp; omega)))
              clear hb154 a0_153 a1_153 a2_153 a3_153 a4_153 b0_153 b1_153 b2_153 b3_153 b4_153 t0_153 t1_153 t2_153 t3_153 t4_153 hg153_0 hg153_1 hg153_2 hw153
              go_wp2_with (fail)
              go_ret
              exact ⟨ret_same (by simp), hw154.out⟩
      · obtain rfl : k = 13 := by omega
        have hE := HLex.out 13 (by omega) (.inl rfl)
        rw [hE]
        clear hE HX1 HX2
        obtain ⟨wx, hwx⟩ : ∃ wx, wx = W.drewN d := ⟨_, rfl⟩
        rw [← hwx]
        have a0_x : wx.cell? ⟨w.heap.size, 0, none⟩ = some (.int .u32 (a.s : Int)) := by rw [hwx]; simpa using a0_W
        have a1_x : wx.cell? ⟨w.heap.size, 1, none⟩ = some (.int .u32 (a.d : Int)) := by rw [hwx]; simpa using a1_W
        have a2_x : wx.cell? ⟨w.heap.size, 2, none⟩ = some (.int .u16 (a.p : Int)) := by rw [hwx]; simpa using a2_W
        have a3_x : wx.cell? ⟨w.heap.size, 3, none⟩ = some (.int .u16 (a.q : Int)) := by rw [hwx]; simpa using a3_W
        have a4_x : wx.cell? ⟨w.heap.size, 4, none⟩ = some (.int .u8 (a.r : Int)) := by rw [hwx]; simpa using a4_W
        have b0_x : wx.cell? ⟨w.heap.size + 1, 0, none⟩ = some (.int .u32 (b.s : Int)) := by rw [hwx]; simpa using b0_W
        have b1_x : wx.cell? ⟨w.heap.size + 1, 1, none⟩ = some (.int .u32 (b.d : Int)) := by rw [hwx]; simpa using b1_W
        have b2_x : wx.cell? ⟨w.heap.size + 1, 2, none⟩ = some (.int .u16 (b.p : Int)) := by rw [hwx]; simpa using b2_W
        have b3_x : wx.cell? ⟨w.heap.size + 1, 3, none⟩ = some (.int .u16 (b.q : Int)) := by rw [hwx]; simpa using b3_W
        have b4_x : wx.cell? ⟨w.heap.size + 1, 4, none⟩ = some (.int .u8 (b.r : Int)) := by rw [hwx]; simpa using b4_W
        have hwr : Hid (Below w.heap.size w wx) := by rw [hwx]; exact bel_drewN HWw.out d
        have hlr : w.heap.size ≤ wx.heap.size := hwr.out.size
        have hgx_0 : w.heap.size < wx.heap.size := World.block_lt_of_cell? _ _ a0_x
        have hgx_1 : w.heap.size + 1 < wx.heap.size := World.block_lt_of_cell? _ _ b0_x
        clear hwx HWw a0_W a1_W a2_W a3_W a4_W b0_W b1_W b2_W b3_W b4_W
        go_wp2_with (fail)
        refine (c1 _).mono ?_
        rintro e w201 ⟨rfl, hb201⟩
        have hz201 := hb201.size
        (try simp at hz201)
        have a0_201 : w201.cell? ⟨w.heap.size, 0, none⟩ = some (.int .u32 (a.s : Int)) := cell_on hb201 a0_x
        have a1_201 : w201.cell? ⟨w.heap.size, 1, none⟩ = some (.int .u32 (a.d : Int)) := cell_on hb201 a1_x
        have a2_201 : w201.cell? ⟨w.heap.size, 2, none⟩ = some (.int .u16 (a.p : Int)) := cell_on hb201 a2_x
        have a3_201 : w201.cell? ⟨w.heap.size, 3, none⟩ = some (.int .u16 (a.q : Int)) := cell_on hb201 a3_x
        have a4_201 : w201.cell? ⟨w.heap.size, 4, none⟩ = some (.int .u8 (a.r : Int)) := cell_on hb201 a4_x
        have b0_201 : w201.cell? ⟨w.heap.size + 1, 0, none⟩ = some (.int .u32 (b.s : Int)) := cell_on hb201 b0_x
        have b1_201 : w201.cell? ⟨w.heap.size + 1, 1, none⟩ = some (.int .u32 (b.d : Int)) := cell_on hb201 b1_x
        have b2_201 : w201.cell? ⟨w.heap.size + 1, 2, none⟩ = some (.int .u16 (b.p : Int)) := cell_on hb201 b2_x
        have b3_201 : w201.cell? ⟨w.heap.size + 1, 3, none⟩ = some (.int .u16 (b.q : Int)) := cell_on hb201 b3_x
        have b4_201 : w201.cell? ⟨w.heap.size + 1, 4, none⟩ = some (.int .u8 (b.r : Int)) := cell_on hb201 b4_x
        have hg201_0 : w.heap.size < w201.heap.size := by omega
        have hg201_1 : w.heap.size + 1 < w201.heap.size := by omega
        have hl201 : w.heap.size ≤ w201.heap.size := by omega
        have hw201 : Hid (Below w.heap.size w w201) := hwr.out.trans (hb201.mono (by first | omega | (simp; done) | (simp; omega)))
        clear hb201 a0_x a1_x a2_x a3_x a4_x b0_x b1_x b2_x b3_x b4_x hgx_0 hgx_1 hwr
        go_wp2_with (fail)
        refine (c2 _).mono ?_
        rintro e w202 ⟨rfl, hb202⟩
        have hz202 := hb202.size
        (try simp at hz202)
        have a0_202 : w202.cell? ⟨w.heap.size, 0, none⟩ = some (.int .u32 (a.s : Int)) := cell_on hb202 a0_201
        have a1_202 : w202.cell? ⟨w.heap.size, 1, none⟩ = some (.int .u32 (a.d : Int)) := cell_on hb202 a1_201
        have a2_202 : w202.cell? ⟨w.heap.size, 2, none⟩ = some (.int .u16 (a.p : Int)) := cell_on hb202 a2_201
        have a3_202 : w202.cell? ⟨w.heap.size, 3, none⟩ = some (.int .u16 (a.q : Int)) := cell_on hb202 a3_201
        have a4_202 : w202.cell? ⟨w.heap.size, 4, none⟩ = some (.int .u8 (a.r : Int)) := cell_on hb202 a4_201
        have b0_202 : w202.cell? ⟨w.heap.size + 1, 0, none⟩ = some (.int .u32 (b.s : Int)) := cell_on hb202 b0_201
        have b1_202 : w202.cell? ⟨w.heap.size + 1, 1, none⟩ = some (.int .u32 (b.d : Int)) := cell_on hb202 b1_201
        have b2_202 : w202.cell? ⟨w.heap.size + 1, 2, none⟩ = some (.int .u16 (b.p : Int)) := cell_on hb202 b2_201
        have b3_202 : w202.cell? ⟨w.heap.size + 1, 3, none⟩ = some (.int .u16 (b.q : Int)) := cell_on hb202 b3_201
        have b4_202 : w202.cell? ⟨w.heap.size + 1, 4, none⟩ = some (.int .u8 (b.r : Int)) := cell_on hb202 b4_201
        have hg202_0 : w.heap.size < w202.heap.size := by omega
        have hg202_1 : w.heap.size + 1 < w202.heap.size := by omega
        have hl202 : w.heap.size ≤ w202.heap.size := by omega
        have hw202 : Hid (Below w.heap.size w w202) := hw201.out.trans (hb202.mono (by first | omega | (simp; done) | (simp; omega)))
        clear hb202 a0_201 a1_201 a2_201 a3_201 a4_201 b0_201 b1_201 b2_201 b3_201 b4_201 hg201_0 hg201_1 hw201
        go_wp2_with (fail)
        refine (c3 _).mono ?_
        rintro e w203 ⟨rfl, hb203⟩
        have hz203 := hb203.size
        (try simp at hz203)
        have a0_203 : w203.cell? ⟨w.heap.size, 0, none⟩ = some (.int .u32 (a.s : Int)) := cell_on hb203 a0_202
        have a1_203 : w203.cell? ⟨w.heap.size, 1, none⟩ = some (.int .u32 (a.d : Int)) := cell_on hb203 a1_202
        have a2_203 : w203.cell? ⟨w.heap.size, 2, none⟩ = some (.int .u16 (a.p : Int)) := cell_on hb203 a2_202
        have a3_203 : w203.cell? ⟨w.heap.size, 3, none⟩ = some (.int .u16 (a.q : Int)) := cell_on hb203 a3_202
        have a4_203 : w203.cell? ⟨w.heap.size, 4, none⟩ = some (.int .u8 (a.r : Int)) := cell_on hb203 a4_202
        have b0_203 : w203.cell? ⟨w.heap.size + 1, 0, none⟩ = some (.int .u32 (b.s : Int)) := cell_on hb203 b0_202
        have b1_203 : w203.cell? ⟨w.heap.size + 1, 1, none⟩ = some (.int .u32 (b.d : Int)) := cell_on hb203 b1_202
        have b2_203 : w203.cell? ⟨w.heap.size + 1, 2, none⟩ = some (.int .u16 (b.p : Int)) := cell_on hb203 b2_202
        have b3_203 : w203.cell? ⟨w.heap.size + 1, 3, none⟩ = some (.int .u16 (b.q : Int)) := cell_on hb203 b3_202
        have b4_203 : w203.cell? ⟨w.heap.size + 1, 4, none⟩ = some (.int .u8 (b.r : Int)) := cell_on hb203 b4_202
        have hg203_0 : w.heap.size < w203.heap.size := by omega
        have hg203_1 : w.heap.size + 1 < w203.heap.size := by omega
        have hl203 : w.heap.size ≤ w203.heap.size := by omega
        have hw203 : Hid (Below w.heap.size w w203) := hw202.out.trans (hb203.mono (by first | omega | (simp; done) | (simp; omega)))
        clear hb203 a0_202 a1_202 a2_202 a3_202 a4_202 b0_202 b1_202 b2_202 b3_202 b4_202 hg202_0 hg202_1 hw202
        go_wp2_with (fail)
        refine (c4 _).mono ?_
        rintro e w204 ⟨rfl, hb204⟩
        have hz204 := hb204.size
        (try simp at hz204)
        have a0_204 : w204.cell? ⟨w.heap.size, 0, none⟩ = some (.int .u32 (a.s : Int)) := cell_on hb204 a0_203
        have a1_204 : w204.cell? ⟨w.heap.size, 1, none⟩ = some (.int .u32 (a.d : Int)) := cell_on hb204 a1_203
        have a2_204 : w204.cell? ⟨w.heap.size, 2, none⟩ = some (.int .u16 (a.p : Int)) := cell_on hb204 a2_203
        have a3_204 : w204.cell? ⟨w.heap.size, 3, none⟩ = some (.int .u16 (a.q : Int)) := cell_on hb204 a3_203
        have a4_204 : w204.cell? ⟨w.heap.size, 4, none⟩ = some (.int .u8 (a.r : Int)) := cell_on hb204 a4_203
        have b0_204 : w204.cell? ⟨w.heap.size + 1, 0, none⟩ = some (.int .u32 (b.s : Int)) := cell_on hb204 b0_203
        have b1_204 : w204.cell? ⟨w.heap.size + 1, 1, none⟩ = some (.int .u32 (b.d : Int)) := cell_on hb204 b1_203
        have b2_204 : w204.cell? ⟨w.heap.size + 1, 2, none⟩ = some (.int .u16 (b.p : Int)) := cell_on hb204 b2_203
        have b3_204 : w204.cell? ⟨w.heap.size + 1, 3, none⟩ = some (.int .u16 (b.q : Int)) := cell_on hb204 b3_203
        have b4_204 : w204.cell? ⟨w.heap.size + 1, 4, none⟩ = some (.int .u8 (b.r : Int)) := cell_on hb204 b4_203
        have hg204_0 : w.heap.size < w204.heap.size := by omega
        have hg204_1 : w.heap.size + 1 < w204.heap.size := by omega
        have hl204 : w.heap.size ≤ w204.heap.size := by omega
        have hw204 : Hid (Below w.heap.size w w204) := hw203.out.trans (hb204.mono (by first | omega | (simp; done) | (simp; omega)))
        clear hb204 a0_203 a1_203 a2_203 a3_203 a4_203 b0_203 b1_203 b2_203 b3_203 b4_203 hg203_0 hg203_1 hw203
        go_wp2_with (fail)
        go_loopw [15] (fun iv wr => ∃ j : Nat, j ≤ k0 ∧ iv = .int .i64 (j : Int) ∧ Hid (Below w204.heap.size w204 wr)) (fun iv _ => k0 - (intOf iv).toNat)
        case atStart => exact ⟨0, by omega, rfl, Below.refl _ _⟩
        case round =>
          obtain ⟨j, hj, rfl, hbw⟩ := hrel
          have a0_r := cell_on1 hbw.out a0_204
          have a1_r := cell_on1 hbw.out a1_204
          have a2_r := cell_on1 hbw.out a2_204
          have a3_r := cell_on1 hbw.out a3_204
          have a4_r := cell_on1 hbw.out a4_204
          have b0_r := cell_on1 hbw.out b0_204
          have b1_r := cell_on1 hbw.out b1_204
          have b2_r := cell_on1 hbw.out b2_204
          have b3_r := cell_on1 hbw.out b3_204
          have b4_r := cell_on1 hbw.out b4_204
          have hzr := hbw.out.size
          by_cases hltj : j < k0
          · have hltj' : (j : Int) < (k0 : Int) := by omega
            have t1 := fun W => hBit a j W oa (by omega)
            have t2 := fun W => hBit b j W ob (by omega)
            rw [← HSame.out j hltj] at t2
            generalize bitH a j = z at *
            go_wp2_with (fail)
            refine (t1 _).mono ?_
            rintro e wb ⟨rfl, hbb⟩
            have b0_s := cell_on1 hbb b0_r
            have b1_s := cell_on1 hbb b1_r
            have b2_s := cell_on1 hbb b2_r
            have b3_s := cell_on1 hbb b3_r
            have b4_s := cell_on1 hbb b4_r
            have hzb := hbb.size
            have HBB : Hid (Below w204.heap.size w204 wb) := hbw.out.trans (hbb.mono hzr)
            clear hbb hbw t1
            go_wp2_with (fail)
            refine (t2 _).mono ?_
            rintro e wc ⟨rfl, hbc⟩
            have HBC : Hid (Below w204.heap.size w204 wc) := HBB.out.trans (hbc.mono (by omega))
            clear hbc HBB t2
            go_wp2_with (fail)
            go_roundw
            case rel => exact ⟨j + 1, by omega, by go_num, HBC.out⟩
            case measure => simp [intOf]; omega
          · obtain rfl : j = k0 := by omega
            have hwy : Hid (Below w.heap.size w wr) := hw204.out.trans (hbw.out.mono hw204.out.size)
            have hly : w.heap.size ≤ wr.heap.size := hwy.out.size
            have hgx_0 : w.heap.size < wr.heap.size := World.block_lt_of_cell? _ _ a0_r
            have hgx_1 : w.heap.size + 1 < wr.heap.size := World.block_lt_of_cell? _ _ b0_r
            clear hbw hw204 a0_204 a1_204 a2_204 a3_204 a4_204 b0_204 b1_204 b2_204 b3_204 b4_204
            go_wp2_with (fail)
            refine (c5 _).mono ?_
            rintro e w251 ⟨rfl, hb251⟩
            have hz251 := hb251.size
            (try simp at hz251)
            have a0_251 : w251.cell? ⟨w.heap.size, 0, none⟩ = some (.int .u32 (a.s : Int)) := cell_on hb251 a0_r
            have a1_251 : w251.cell? ⟨w.heap.size, 1, none⟩ = some (.int .u32 (a.d : Int)) := cell_on hb251 a1_r
            have a2_251 : w251.cell? ⟨w.heap.size, 2, none⟩ = some (.int .u16 (a.p : Int)) := cell_on hb251 a2_r
            have a3_251 : w251.cell? ⟨w.heap.size, 3, none⟩ = some (.int .u16 (a.q : Int)) := cell_on hb251 a3_r
            have a4_251 : w251.cell? ⟨w.heap.size, 4, none⟩ = some (.int .u8 (a.r : Int)) := cell_on hb251 a4_r
            have b0_251 : w251.cell? ⟨w.heap.size + 1, 0, none⟩ = some (.int .u32 (b.s : Int)) := cell_on hb251 b0_r
            have b1_251 : w251.cell? ⟨w.heap.size + 1, 1, none⟩ = some (.int .u32 (b.d : Int)) := cell_on hb251 b1_r
            have b2_251 : w251.cell? ⟨w.heap.size + 1, 2, none⟩ = some (.int .u16 (b.p : Int)) := cell_on hb251 b2_r
            have b3_251 : w251.cell? ⟨w.heap.size + 1, 3, none⟩ = some (.int .u16 (b.q : Int)) := cell_on hb251 b3_r
            have b4_251 : w251.cell? ⟨w.heap.size + 1, 4, none⟩ = some (.int .u8 (b.r : Int)) := cell_on hb251 b4_r
            have hg251_0 : w.heap.size < w251.heap.size := by omega
            have hg251_1 : w.heap.size + 1 < w251.heap.size := by omega
            have hl251 : w.heap.size ≤ w251.heap.size := by omega
            have hw251 : Hid (Below w.heap.size w w251) := hwy.out.trans (hb251.mono (by first | omega | (simp; done) | (simp; omega)))
            clear hb251 a0_r a1_r a2_r a3_r a4_r b0_r b1_r b2_r b3_r b4_r hgx_0 hgx_1 hwy
            go_wp2_with (fail)
            refine (hA _).mono ?_
            rintro e w252 ⟨rfl, hb252⟩
            have hz252 := hb252.size
            (try simp at hz252)
            have a0_252 : w252.cell? ⟨w.heap.size, 0, none⟩ = some (.int .u32 (a.s : Int)) := cell_on hb252 (cell_alloc a0_251)
            have a1_252 : w252.cell? ⟨w.heap.size, 1, none⟩ = some (.int .u32 (a.d : Int)) := cell_on hb252 (cell_alloc a1_251)
            have a2_252 : w252.cell? ⟨w.heap.size, 2, none⟩ = some (.int .u16 (a.p : Int)) := cell_on hb252 (cell_alloc a2_251)
            have a3_252 : w252.cell? ⟨w.heap.size, 3, none⟩ = some (.int .u16 (a.q : Int)) := cell_on hb252 (cell_alloc a3_251)
            have a4_252 : w252.cell? ⟨w.heap.size, 4, none⟩ = some (.int .u8 (a.r : Int)) := cell_on hb252 (cell_alloc a4_251)
            have b0_252 : w252.cell? ⟨w.heap.size + 1, 0, none⟩ = some (.int .u32 (b.s : Int)) := cell_on hb252 (cell_alloc b0_251)
            have b1_252 : w252.cell? ⟨w.heap.size + 1, 1, none⟩ = some (.int .u32 (b.d : Int)) := cell_on hb252 (cell_alloc b1_251)
            have b2_252 : w252.cell? ⟨w.heap.size + 1, 2, none⟩ = some (.int .u16 (b.p : Int)) := cell_on hb252 (cell_alloc b2_251)
            have b3_252 : w252.cell? ⟨w.heap.size + 1, 3, none⟩ = some (.int .u16 (b.q : Int)) := cell_on hb252 (cell_alloc b3_251)
            have b4_252 : w252.cell? ⟨w.heap.size + 1, 4, none⟩ = some (.int .u8 (b.r : Int)) := cell_on hb252 (cell_alloc b4_251)
            have t0_252 : w252.cell? ⟨w251.heap.size, 0, none⟩ = some (.int .u32 (tt.s : Int)) := cell_on hb252 (show (w251.alloc (.cells #[.int .u32 (tt.s : Int), .int .u32 (tt.d : Int), .int .u16 (tt.p : Int), .int .u16 (tt.q : Int), .int .u8 (tt.r : Int)] 25)).cell? ⟨w251.heap.size, 0, none⟩ = some (.int .u32 (tt.s : Int)) from by simp [go_sem])
            have t1_252 : w252.cell? ⟨w251.heap.size, 1, none⟩ = some (.int .u32 (tt.d : Int)) := cell_on hb252 (show (w251.alloc (.cells #[.int .u32 (tt.s : Int), .int .u32 (tt.d : Int), .int .u16 (tt.p : Int), .int .u16 (tt.q : Int), .int .u8 (tt.r : Int)] 25)).cell? ⟨w251.heap.size, 1, none⟩ = some (.int .u32 (tt.d : Int)) from by simp [go_sem])
            have t2_252 : w252.cell? ⟨w251.heap.size, 2, none⟩ = some (.int .u16 (tt.p : Int)) := cell_on hb252 (show (w251.alloc (.cells #[.int .u32 (tt.s : Int), .int .u32 (tt.d : Int), .int .u16 (tt.p : Int), .int .u16 (tt.q : Int), .int .u8 (tt.r : Int)] 25)).cell? ⟨w251.heap.size, 2, none⟩ = some (.int .u16 (tt.p : Int)) from by simp [go_sem])
            have t3_252 : w252.cell? ⟨w251.heap.size, 3, none⟩ = some (.int .u16 (tt.q : Int)) := cell_on hb252 (show (w251.alloc (.cells #[.int .u32 (tt.s : Int), .int .u32 (tt.d : Int), .int .u16 (tt.p : Int), .int .u16 (tt.q : Int), .int .u8 (tt.r : Int)] 25)).cell? ⟨w251.heap.size, 3, none⟩ = some (.int .u16 (tt.q : Int)) from by simp [go_sem])
            have t4_252 : w252.cell? ⟨w251.heap.size, 4, none⟩ = some (.int .u8 (tt.r : Int)) := cell_on hb252 (show (w251.alloc (.cells #[.int .u32 (tt.s : Int), .int .u32 (tt.d : Int), .int .u16 (tt.p : Int), .int .u16 (tt.q : Int), .int .u8 (tt.r : Int)] 25)).cell? ⟨w251.heap.size, 4, none⟩ = some (.int .u8 (tt.r : Int)) from by simp [go_sem])
            have hg252_0 : w.heap.size < w252.heap.size := by omega
            have hg252_1 : w.heap.size + 1 < w252.heap.size := by omega
            have hg252_2 : w251.heap.size < w252.heap.size := by omega
            have hl252 : w.heap.size ≤ w252.heap.size := by omega
            have hw252 : Hid (Below w.heap.size w w252) := (hw251.out.alloc (by first | omega | (simp; done) | (simp; omega)) _).trans (hb252.mono (by first | omega | (simp; done) | (simp; omega)))
            clear hb252 a0_251 a1_251 a2_251 a3_251 a4_251 b0_251 b1_251 b2_251 b3_251 b4_251 hg251_0 hg251_1 hw251
            go_wp2_with (fail)
            refine (c6 _).mono ?_
            rintro e w253 ⟨rfl, hb253⟩
            have hz253 := hb253.size
            (try simp at hz253)
            have a0_253 : w253.cell? ⟨w.heap.size, 0, none⟩ = some (.int .u32 (a.s : Int)) := cell_on hb253 a0_252
            have a1_253 : w253.cell? ⟨w.heap.size, 1, none⟩ = some (.int .u32 (a.d : Int)) := cell_on hb253 a1_252
            have a2_253 : w253.cell? ⟨w.heap.size, 2, none⟩ = some (.int .u16 (a.p : Int)) := cell_on hb253 a2_252
            have a3_253 : w253.cell? ⟨w.heap.size, 3, none⟩ = some (.int .u16 (a.q : Int)) := cell_on hb253 a3_252
            have a4_253 : w253.cell? ⟨w.heap.size, 4, none⟩ = some (.int .u8 (a.r : Int)) := cell_on hb253 a4_252
            have b0_253 : w253.cell? ⟨w.heap.size + 1, 0, none⟩ = some (.int .u32 (b.s : Int)) := cell_on hb253 b0_252
            have b1_253 : w253.cell? ⟨w.heap.size + 1, 1, none⟩ = some (.int .u32 (b.d : Int)) := cell_on hb253 b1_252
            have b2_253 : w253.cell? ⟨w.heap.size + 1, 2, none⟩ = some (.int .u16 (b.p : Int)) := cell_on hb253 b2_252
            have b3_253 : w253.cell? ⟨w.heap.size + 1, 3, none⟩ = some (.int .u16 (b.q : Int)) := cell_on hb253 b3_252
            have b4_253 : w253.cell? ⟨w.heap.size + 1, 4, none⟩ = some (.int .u8 (b.r : Int)) := cell_on hb253 b4_252
            have t0_253 : w253.cell? ⟨w251.heap.size, 0, none⟩ = some (.int .u32 (tt.s : Int)) := cell_on hb253 t0_252
            have t1_253 : w253.cell? ⟨w251.heap.size, 1, none⟩ = some (.int .u32 (tt.d : Int)) := cell_on hb253 t1_252
            have t2_253 : w253.cell? ⟨w251.heap.size, 2, none⟩ = some (.int .u16 (tt.p : Int)) := cell_on hb253 t2_252
            have t3_253 : w253.cell? ⟨w251.heap.size, 3, none⟩ = some (.int .u16 (tt.q : Int)) := cell_on hb253 t3_252
            have t4_253 : w253.cell? ⟨w251.heap.size, 4, none⟩ = some (.int .u8 (tt.r : Int)) := cell_on hb253 t4_252
            have hg253_0 : w.heap.size < w253.heap.size := by omega
            have hg253_1 : w.heap.size + 1 < w253.heap.size := by omega
            have hg253_2 : w251.heap.size < w253.heap.size := by omega
            have hl253 : w.heap.size ≤ w253.heap.size := by omega
            have hw253 : Hid (Below w.heap.size w w253) := hw252.out.trans (hb253.mono (by first | omega | (simp; done) | (simp; omega)))
            clear hb253 a0_252 a1_252 a2_252 a3_252 a4_252 b0_252 b1_252 b2_252 b3_252 b4_252 t0_252 t1_252 t2_252 t3_252 t4_252 hg252_0 hg252_1 hg252_2 hw252
            go_wp2_with (fail)
            refine (c7 _).mono ?_
            rintro e w254 ⟨rfl, hb254⟩
            have hz254 := hb254.size
            (try simp at hz254)
            have a0_254 : w254.cell? ⟨w.heap.size, 0, none⟩ = some (.int .u32 (a.s : Int)) := cell_on hb254 a0_253
            have a1_254 : w254.cell? ⟨w.heap.size, 1, none⟩ = some (.int .u32 (a.d : Int)) := cell_on hb254 a1_253
            have a2_254 : w254.cell? ⟨w.heap.size, 2, none⟩ = some (.int .u16 (a.p : Int)) := cell_on hb254 a2_253
            have a3_254 : w254.cell? ⟨w.heap.size, 3, none⟩ = some (.int .u16 (a.q : Int)) := cell_on hb254 a3_253
            have a4_254 : w254.cell? ⟨w.heap.size, 4, none⟩ = some (.int .u8 (a.r : Int)) := cell_on hb254 a4_253
            have b0_254 : w254.cell? ⟨w.heap.size + 1, 0, none⟩ = some (.int .u32 (b.s : Int)) := cell_on hb254 b0_253
            have b1_254 : w254.cell? ⟨w.heap.size + 1, 1, none⟩ = some (.int .u32 (b.d : Int)) := cell_on hb254 b1_253
            have b2_254 : w254.cell? ⟨w.heap.size + 1, 2, none⟩ = some (.int .u16 (b.p : Int)) := cell_on hb254 b2_253
            have b3_254 : w254.cell? ⟨w.heap.size + 1, 3, none⟩ = some (.int .u16 (b.q : Int)) := cell_on hb254 b3_253
            have b4_254 : w254.cell? ⟨w.heap.size + 1, 4, none⟩ = some (.int .u8 (b.r : Int)) := cell_on hb254 b4_253
            have t0_254 : w254.cell? ⟨w251.heap.size, 0, none⟩ = some (.int .u32 (tt.s : Int)) := cell_on hb254 t0_253
            have t1_254 : w254.cell? ⟨w251.heap.size, 1, none⟩ = some (.int .u32 (tt.d : Int)) := cell_on hb254 t1_253
            have t2_254 : w254.cell? ⟨w251.heap.size, 2, none⟩ = some (.int .u16 (tt.p : Int)) := cell_on hb254 t2_253
            have t3_254 : w254.cell? ⟨w251.heap.size, 3, none⟩ = some (.int .u16 (tt.q : Int)) := cell_on hb254 t3_253
            have t4_254 : w254.cell? ⟨w251.heap.size, 4, none⟩ = some (.int .u8 (tt.r : Int)) := cell_on hb254 t4_253
            have hg254_0 : w.heap.size < w254.heap.size := by omega
            have hg254_1 : w.heap.size + 1 < w254.heap.size := by omega
            have hg254_2 : w251.heap.size < w254.heap.size := by omega
            have hl254 : w.heap.size ≤ w254.heap.size := by omega
            have hw254 : Hid (Below w.heap.size w w254) := hw253.out.trans (hb254.mono (by first | omega | (simp; done) | (simp; omega)))
            clear hb254 a0_253 a1_253 a2_253 a3_253 a4_253 b0_253 b1_253 b2_253 b3_253 b4_253 t0_253 t1_253 t2_253 t3_253 t4_253 hg253_0 hg253_1 hg253_2 hw253
            go_wp2_with (fail)
            go_ret
            exact ⟨ret_same (by simp), hw254.out⟩
theorem headerOrders_core (hP : PackC) (hBit : BitC) (hTrn : TrnC) (hC : CmpC) (hD : DifC) (hA : ∀ w : World, Calls Try.prog 8 #[] w fun e w' => e = .returned (.bool true) ∧ Below w.heap.size w w') (a b : Hd) (oa : OkH a) (ob : OkH b) (w : World) :
    Calls Try.prog 3 #[.agg #[.int .u32 (a.s : Int), .int .u32 (a.d : Int), .int .u16 (a.p : Int), .int .u16 (a.q : Int), .int .u8 (a.r : Int)], .agg #[.int .u32 (b.s : Int), .int .u32 (b.d : Int), .int .u16 (b.p : Int), .int .u16 (b.q : Int), .int .u8 (b.r : Int)]] w fun e w' => e = .returned (.bool true) ∧ Below w.heap.size w w' := by
  rcases difH_is oa ob with ⟨_, rfl⟩ | ⟨k0, _, hk0, hne, hs⟩
  · exact orders_eq hP hC hD hA a oa w
  · rcases bit_cases a k0 with h1 | h1
    · have h2 : bitH b k0 = 1 := by rcases bit_cases b k0 with h | h; (exact absurd (h1.trans h.symm) hne); exact h
      exact orders_ne hP hBit hTrn hC hD hA a b oa ob k0 hk0 hs 0 1 (-1) h1 h2 (.inl ⟨rfl, rfl, rfl⟩) (cmp_bit0 oa ob hk0 hs h1 h2) w
    · have h2 : bitH b k0 = 0 := by rcases bit_cases b k0 with h | h; (exact h); exact absurd (h1.trans h.symm) hne
      exact orders_ne hP hBit hTrn hC hD hA a b oa ob k0 hk0 hs 1 0 1 h1 h2 (.inr ⟨rfl, rfl, rfl⟩) (cmp_bit1 oa ob hk0 hs h1 h2) w
end Go.Proofs.Ytpgadbiohmofeab
