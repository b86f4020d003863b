/-
  What Compare, Differ, Next and Of of the document's answer hand back.
-/
import Derived.Test.YtpgadbiohmofeaaHdRb
import Derived.Test.YtpgadbiohmofeaaHdPlB
import Derived.Test.YtpgadbiohmofeaaHdLw
namespace Go.Proofs.Ytpgadbiohmofeaa
open Go.RowKit
set_option linter.unusedVariables false
set_option linter.unusedSimpArgs false
attribute [local go_sem ↓] Go.wp_at_zero Go.wp_at_succ

set_option maxHeartbeats 1000000 in
theorem rCmpT (a b : Hd) (w : World) (oa : OkH a) (ob : OkH b) :
    Calls Try.prog 20 #[.agg #[.int .u32 (a.s : Int), .int .u32 (a.d : Int), .int .u16 (a.p : Int), .int .u16 (a.q : Int), .int .u8 (a.r : Int)], .agg #[.int .u32 (b.s : Int), .int .u32 (b.d : Int), .int .u16 (b.p : Int), .int .u16 (b.q : Int), .int .u8 (b.r : Int)]] w fun e w' => e = .returned (.int .i64 (cmpH a b)) ∧ Below w.heap.size w w' := by
  have HL : Hid (∀ k, k < 5 → (∀ j, j < k → fl a j = fl b j) → fl a k < fl b k → cmpH a b = -1) := fun k hk hs hl => cmp_less oa ob hk hs hl
  have HM : Hid (∀ k, k < 5 → (∀ j, j < k → fl a j = fl b j) → fl b k < fl a k → cmpH a b = 1) := fun k hk hs hl => cmp_more oa ob hk hs hl
  have HN : Hid ((∀ j, j < 5 → fl a j = fl b j) → cmpH a b = 0) := fun hs => cmp_none hs
  have hfa : ∀ k, Hid (fl a k < 4294967296) := fun k => fl_lt oa k
  have hfb : ∀ k, Hid (fl b k < 4294967296) := fun k => fl_lt ob k
  obtain ⟨o1, o2, o3, o4, o5⟩ := oa
  obtain ⟨u1, u2, u3, u4, u5⟩ := ob
  generalize cmpH a b = C at *
  go_enter Try.func20, Try.ntmps20
  go_wp2
  have cx : ∀ k, k < 5 → ((((w.alloc (.cells #[.int .u32 (a.s : Int), .int .u32 (a.d : Int), .int .u16 (a.p : Int), .int .u16 (a.q : Int), .int .u8 (a.r : Int)] 25)).alloc (.cells #[.int .u32 (b.s : Int), .int .u32 (b.d : Int), .int .u16 (b.p : Int), .int .u16 (b.q : Int), .int .u8 (b.r : Int)] 25)).alloc (.cells #[.int .u32 (a.s : Int), .int .u32 (a.d : Int), .int .u32 (a.p : Int), .int .u32 (a.q : Int), .int .u32 (a.r : Int)] 22)).alloc (.cells #[.int .u32 (b.s : Int), .int .u32 (b.d : Int), .int .u32 (b.p : Int), .int .u32 (b.q : Int), .int .u32 (b.r : Int)] 22)).cell? ⟨w.heap.size + 1 + 1, k, none⟩ = some (.int .u32 (fl a k : Int)) := by
    intro k hk
    match k, hk with
    | 0, _ => simp [go_sem, fl]
    | 1, _ => simp [go_sem, fl]
    | 2, _ => simp [go_sem, fl]
    | 3, _ => simp [go_sem, fl]
    | 4, _ => simp [go_sem, fl]
  have cy : ∀ k, k < 5 → ((((w.alloc (.cells #[.int .u32 (a.s : Int), .int .u32 (a.d : Int), .int .u16 (a.p : Int), .int .u16 (a.q : Int), .int .u8 (a.r : Int)] 25)).alloc (.cells #[.int .u32 (b.s : Int), .int .u32 (b.d : Int), .int .u16 (b.p : Int), .int .u16 (b.q : Int), .int .u8 (b.r : Int)] 25)).alloc (.cells #[.int .u32 (a.s : Int), .int .u32 (a.d : Int), .int .u32 (a.p : Int), .int .u32 (a.q : Int), .int .u32 (a.r : Int)] 22)).alloc (.cells #[.int .u32 (b.s : Int), .int .u32 (b.d : Int), .int .u32 (b.p : Int), .int .u32 (b.q : Int), .int .u32 (b.r : Int)] 22)).cell? ⟨w.heap.size + 1 + 1 + 1, k, none⟩ = some (.int .u32 (fl b k : Int)) := by
    intro k hk
    match k, hk with
    | 0, _ => simp [go_sem, fl]
    | 1, _ => simp [go_sem, fl]
    | 2, _ => simp [go_sem, fl]
    | 3, _ => simp [go_sem, fl]
    | 4, _ => simp [go_sem, fl]
  have HB : Hid (Below w.heap.size w ((((w.alloc (.cells #[.int .u32 (a.s : Int), .int .u32 (a.d : Int), .int .u16 (a.p : Int), .int .u16 (a.q : Int), .int .u8 (a.r : Int)] 25)).alloc (.cells #[.int .u32 (b.s : Int), .int .u32 (b.d : Int), .int .u16 (b.p : Int), .int .u16 (b.q : Int), .int .u8 (b.r : Int)] 25)).alloc (.cells #[.int .u32 (a.s : Int), .int .u32 (a.d : Int), .int .u32 (a.p : Int), .int .u32 (a.q : Int), .int .u32 (a.r : Int)] 22)).alloc (.cells #[.int .u32 (b.s : Int), .int .u32 (b.d : Int), .int .u32 (b.p : Int), .int .u32 (b.q : Int), .int .u32 (b.r : Int)] 22))) := by show Below _ _ _; (repeat (first | assumption | exact Below.refl _ _ | refine Below.drew ?_ | refine bel_drewN ?_ _ | refine Below.setCell ?_ (by first | omega | (simp; done) | (simp; omega)) _ | refine Below.alloc ?_ (by first | omega | (simp; done) | (simp; omega)) _ | refine bel_of ?_ (by assumption)))
  generalize ((((w.alloc (.cells #[.int .u32 (a.s : Int), .int .u32 (a.d : Int), .int .u16 (a.p : Int), .int .u16 (a.q : Int), .int .u8 (a.r : Int)] 25)).alloc (.cells #[.int .u32 (b.s : Int), .int .u32 (b.d : Int), .int .u16 (b.p : Int), .int .u16 (b.q : Int), .int .u8 (b.r : Int)] 25)).alloc (.cells #[.int .u32 (a.s : Int), .int .u32 (a.d : Int), .int .u32 (a.p : Int), .int .u32 (a.q : Int), .int .u32 (a.r : Int)] 22)).alloc (.cells #[.int .u32 (b.s : Int), .int .u32 (b.d : Int), .int .u32 (b.p : Int), .int .u32 (b.q : Int), .int .u32 (b.r : Int)] 22)) = W at *
  go_loopw [7] (fun iv wr => ∃ k d : Nat, k ≤ 5 ∧ iv = .int .i64 (k : Int) ∧ Hid (∀ j, j < k → fl a j = fl b j) ∧ wr = W.drewN d) (fun iv _ => 5 - (intOf iv).toNat)
  case atStart => exact ⟨0, 0, Nat.zero_le _, rfl, fun j hj => absurd hj (by omega), rfl⟩
  case round =>
    obtain ⟨k, d, hk, rfl, hs, rfl⟩ := hrel
    by_cases hlt : k < 5
    · have x0 := cx k hlt
      have y0 := cy k hlt
      have HF : Hid (fl a k < fl b k → C = -1) := HL.out k hlt hs.out
      have HG : Hid (fl b k < fl a k → C = 1) := HM.out k hlt hs.out
      have HS : Hid (fl a k = fl b k → ∀ j, j < k + 1 → fl a j = fl b j) := fun he j hj => by
        by_cases ej : j = k
        · rw [ej]; exact he
        · exact hs.out j (by omega)
      have l1 := (hfa k).out
      have l2 := (hfb k).out
      generalize fl a k = X at *
      generalize fl b k = Y at *
      have hlt' : (k : Int) < 5 := by omega
      have hk0 : (0 : Int) ≤ (k : Int) := by omega
      clear cx cy HL HM HN hfa hfb
      rcases Nat.lt_trichotomy X Y with hc | hc | hc
      · obtain rfl := HF.out hc
        have hc' : (X : Int) < (Y : Int) := by omega
        clear HF HG HS
        go_wp2
        go_quiet (fail)
        go_wp2
        go_ret
        exact ⟨rfl, bel_drewN (bel_drewN HB.out _) _⟩
      · subst hc
        have hn : ¬ (X : Int) < (X : Int) := by omega
        go_wp2
        go_quiet (fail)
        go_wp2
        go_quiet (fail)
        go_wp2
        go_roundw
        case rel => exact ⟨k + 1, _, by omega, by go_num, HS.out (by first | rfl | trivial), by first | rfl | trivial⟩
        case measure => simp [intOf]; omega
      · obtain rfl := HG.out hc
        have hn : ¬ (X : Int) < (Y : Int) := by omega
        have hn2 : (Y : Int) < (X : Int) := by omega
        clear HF HG HS
        go_wp2
        go_quiet (fail)
        go_wp2
        go_quiet (fail)
        go_wp2
        go_ret
        exact ⟨rfl, bel_drewN (bel_drewN (bel_drewN HB.out _) _) _⟩
    · obtain rfl : k = 5 := by omega
      obtain rfl := HN.out hs.out
      go_wp2
      go_ret
      exact ⟨rfl, bel_drewN HB.out _⟩
set_option maxHeartbeats 1000000 in
theorem rDifT (a b : Hd) (w : World) (oa : OkH a) (ob : OkH b) :
    Calls Try.prog 22 #[.agg #[.int .u32 (a.s : Int), .int .u32 (a.d : Int), .int .u16 (a.p : Int), .int .u16 (a.q : Int), .int .u8 (a.r : Int)], .agg #[.int .u32 (b.s : Int), .int .u32 (b.d : Int), .int .u16 (b.p : Int), .int .u16 (b.q : Int), .int .u8 (b.r : Int)]] w fun e w' => e = .returned (.int .i64 (difH a b)) ∧ Below w.heap.size w w' := by
  have HD : Hid (∀ k, k < 104 → (∀ j, j < k → bitH a j = bitH b j) → bitH a k ≠ bitH b k → difH a b = (k : Int)) := fun k hk hs hn => dif_at hk hs hn
  have HN : Hid ((∀ j, j < 104 → bitH a j = bitH b j) → difH a b = -1) := fun hs => dif_none hs
  generalize difH a b = D at *
  go_enter Try.func22, Try.ntmps22
  go_wp2_with (fail)
  refine (rpackT a _ oa).mono ?_
  rintro e w1 ⟨v1, rfl, r1, b1⟩
  have hz1 := b1.size
  simp at hz1
  obtain ⟨hc1, hf1⟩ := bcell b1
  have c0 : w1.cell? ⟨w.heap.size + 1, 0, none⟩ = some (.int .u32 (b.s : Int)) := by rw [hc1 _ _ (by simp)]; simp [go_sem]
  have c1 : w1.cell? ⟨w.heap.size + 1, 1, none⟩ = some (.int .u32 (b.d : Int)) := by rw [hc1 _ _ (by simp)]; simp [go_sem]
  have c2 : w1.cell? ⟨w.heap.size + 1, 2, none⟩ = some (.int .u16 (b.p : Int)) := by rw [hc1 _ _ (by simp)]; simp [go_sem]
  have c3 : w1.cell? ⟨w.heap.size + 1, 3, none⟩ = some (.int .u16 (b.q : Int)) := by rw [hc1 _ _ (by simp)]; simp [go_sem]
  have c4 : w1.cell? ⟨w.heap.size + 1, 4, none⟩ = some (.int .u8 (b.r : Int)) := by rw [hc1 _ _ (by simp)]; simp [go_sem]
  have HB1 : Hid (Below w.heap.size w w1) := (((Below.refl _ _).alloc (Nat.le_refl _) _).alloc (by simp) _).trans (b1.mono (by simp; omega))
  have R1 : Hid (RowB w1 (w.heap.size + 1 + 1) v1 (bytesH a)) := by show RowB _ _ _ _; simpa using r1
  clear hc1 hf1 b1 r1
  go_wp2_with (fail)
  refine (rpackT b _ ob).mono ?_
  rintro e w2 ⟨v2, rfl, r2, b2⟩
  have s1 : Hid (SrcB w2 v1 (bytesH a)) := R1.out.src.keep b2
  have s2 : Hid (SrcB w2 v2 (bytesH b)) := r2.src
  have HB2 : Hid (Below w.heap.size w w2) := HB1.out.trans (b2.mono (by omega))
  have k1 : ∀ i : Nat, i < 104 → Hid (Calls Try.prog 33 #[v1, .int .i64 (i : Int)] w2 fun e w' => e = .returned (.int .i64 (bitH a i : Int)) ∧ w' = w2) := fun i hi => rbitT (bytesH a) v1 i w2 s1.out (by rw [bytesH_length]; omega) (by rw [bytesH_length]; omega) (bytesH_bd a)
  have k2 : ∀ i : Nat, i < 104 → Hid (Calls Try.prog 33 #[v2, .int .i64 (i : Int)] w2 fun e w' => e = .returned (.int .i64 (bitH b i : Int)) ∧ w' = w2) := fun i hi => rbitT (bytesH b) v2 i w2 s2.out (by rw [bytesH_length]; omega) (by rw [bytesH_length]; omega) (bytesH_bd b)
  clear c0 c1 c2 c3 c4 R1 HB1 r2 b2 s1 s2
  go_wp2_with (fail)
  go_loopw [7] (fun iv wr => ∃ k : Nat, k ≤ 104 ∧ iv = .int .i64 (k : Int) ∧ Hid (∀ j, j < k → bitH a j = bitH b j) ∧ wr = w2) (fun iv _ => 104 - (intOf iv).toNat)
  case atStart => exact ⟨0, Nat.zero_le _, rfl, fun j hj => absurd hj (by omega), rfl⟩
  case round =>
    obtain ⟨k, hk, rfl, hs, hwr⟩ := hrel
    subst hwr
    by_cases hlt : k < 104
    · have K1 := (k1 k hlt).out
      have K2 := (k2 k hlt).out
      have HF : Hid (bitH a k ≠ bitH b k → D = (k : Int)) := HD.out k hlt hs.out
      have HS : Hid (bitH a k = bitH b k → ∀ j, j < k + 1 → bitH a j = bitH b j) := fun he j hj => by
        by_cases ej : j = k
        · rw [ej]; exact he
        · exact hs.out j (by omega)
      generalize bitH a k = X at *
      generalize bitH b k = Y at *
      have hlt' : (k : Int) < 104 := by omega
      clear k1 k2 HD HN
      by_cases hc : X = Y
      · subst hc
        go_wp2_with (fail)
        refine K1.mono ?_
        rintro e w' ⟨rfl, hw⟩
        obtain rfl := hw.symm
        clear hw
        go_wp2_with (fail)
        refine K2.mono ?_
        rintro e w' ⟨rfl, hw⟩
        obtain rfl := hw.symm
        clear hw
        go_wp2
        go_roundw
        case rel => exact ⟨k + 1, by omega, by go_num, HS.out (by first | rfl | trivial), by first | rfl | trivial⟩
        case measure => simp [intOf]; omega
      · obtain rfl := HF.out hc
        have hn : ((X : Int) != (Y : Int)) = true := by simp; omega
        have hn2 : ¬ (X : Int) = (Y : Int) := by omega
        clear HF HS
        go_wp2_with (fail)
        refine K1.mono ?_
        rintro e w' ⟨rfl, hw⟩
        obtain rfl := hw.symm
        clear hw
        go_wp2_with (fail)
        refine K2.mono ?_
        rintro e w' ⟨rfl, hw⟩
        obtain rfl := hw.symm
        clear hw
        go_wp2
        go_ret
        exact ⟨rfl, HB2.out⟩
    · obtain rfl : k = 104 := by omega
      obtain rfl := HN.out hs.out
      go_wp2
      go_ret
      exact ⟨rfl, HB2.out⟩
end Go.Proofs.Ytpgadbiohmofeaa
