/-
  What Compare, Differ, Next and Of of the document's answer hand back.
-/
import Derived.Test.YthfjdoenofkghaaHdRb
import Derived.Test.YthfjdoenofkghaaHdPlB
import Derived.Test.YthfjdoenofkghaaHdLw
namespace Go.Proofs.Ythfjdoenofkghaa
open Go.RowKit
set_option linter.unusedVariables false
set_option linter.unusedSimpArgs false
attribute [local go_sem ↓] Go.wp_at_zero Go.wp_at_succ

set_option maxHeartbeats 1000000 in
theorem rCmpT (a b : Hd) (w : World) (oa : OkH a) (ob : OkH b) :
    Calls Try.prog 32 #[.agg #[.int .u32 (a.s : Int), .int .u32 (a.d : Int), .int .u16 (a.p : Int), .int .u16 (a.q : Int), .int .u8 (a.r : Int)], .agg #[.int .u32 (b.s : Int), .int .u32 (b.d : Int), .int .u16 (b.p : Int), .int .u16 (b.q : Int), .int .u8 (b.r : Int)]] w fun e w' => e = .returned (.int .i64 (cmpH a b)) ∧ Below w.heap.size w w' := by
  have HL : Hid (∀ k, k < 5 → (∀ j, j < k → fl a j = fl b j) → fl a k < fl b k → cmpH a b = -1) := fun k hk hs hl => cmp_less oa ob hk hs hl
  have HM : Hid (∀ k, k < 5 → (∀ j, j < k → fl a j = fl b j) → fl b k < fl a k → cmpH a b = 1) := fun k hk hs hl => cmp_more oa ob hk hs hl
  have HN : Hid ((∀ j, j < 5 → fl a j = fl b j) → cmpH a b = 0) := fun hs => cmp_none hs
  have hfa : ∀ k, Hid (fl a k < 4294967296) := fun k => fl_lt oa k
  have hfb : ∀ k, Hid (fl b k < 4294967296) := fun k => fl_lt ob k
  obtain ⟨o1, o2, o3, o4, o5⟩ := oa
  obtain ⟨u1, u2, u3, u4, u5⟩ := ob
  generalize cmpH a b = C at *
  go_enter Try.func32, Try.ntmps32
  go_wp2
  have cx : ∀ k, k < 5 → ((((w.alloc (.cells #[.int .u32 (a.s : Int), .int .u32 (a.d : Int), .int .u16 (a.p : Int), .int .u16 (a.q : Int), .int .u8 (a.r : Int)] 36)).alloc (.cells #[.int .u32 (b.s : Int), .int .u32 (b.d : Int), .int .u16 (b.p : Int), .int .u16 (b.q : Int), .int .u8 (b.r : Int)] 36)).alloc (.cells #[.int .u32 (a.s : Int), .int .u32 (a.d : Int), .int .u32 (a.p : Int), .int .u32 (a.q : Int), .int .u32 (a.r : Int)] 33)).alloc (.cells #[.int .u32 (b.s : Int), .int .u32 (b.d : Int), .int .u32 (b.p : Int), .int .u32 (b.q : Int), .int .u32 (b.r : Int)] 33)).cell? ⟨w.heap.size + 1 + 1, k, none⟩ = some (.int .u32 (fl a k : Int)) := by
    intro k hk
    match k, hk with
    | 0, _ => simp [go_sem, fl]
    | 1, _ => simp [go_sem, fl]
    | 2, _ => simp [go_sem, fl]
    | 3, _ => simp [go_sem, fl]
    | 4, _ => simp [go_sem, fl]
  have cy : ∀ k, k < 5 → ((((w.alloc (.cells #[.int .u32 (a.s : Int), .int .u32 (a.d : Int), .int .u16 (a.p : Int), .int .u16 (a.q : Int), .int .u8 (a.r : Int)] 36)).alloc (.cells #[.int .u32 (b.s : Int), .int .u32 (b.d : Int), .int .u16 (b.p : Int), .int .u16 (b.q : Int), .int .u8 (b.r : Int)] 36)).alloc (.cells #[.int .u32 (a.s : Int), .int .u32 (a.d : Int), .int .u32 (a.p : Int), .int .u32 (a.q : Int), .int .u32 (a.r : Int)] 33)).alloc (.cells #[.int .u32 (b.s : Int), .int .u32 (b.d : Int), .int .u32 (b.p : Int), .int .u32 (b.q : Int), .int .u32 (b.r : Int)] 33)).cell? ⟨w.heap.size + 1 + 1 + 1, k, none⟩ = some (.int .u32 (fl b k : Int)) := by
    intro k hk
    match k, hk with
    | 0, _ => simp [go_sem, fl]
    | 1, _ => simp [go_sem, fl]
    | 2, _ => simp [go_sem, fl]
    | 3, _ => simp [go_sem, fl]
    | 4, _ => simp [go_sem, fl]
  have HB : Hid (Below w.heap.size w ((((w.alloc (.cells #[.int .u32 (a.s : Int), .int .u32 (a.d : Int), .int .u16 (a.p : Int), .int .u16 (a.q : Int), .int .u8 (a.r : Int)] 36)).alloc (.cells #[.int .u32 (b.s : Int), .int .u32 (b.d : Int), .int .u16 (b.p : Int), .int .u16 (b.q : Int), .int .u8 (b.r : Int)] 36)).alloc (.cells #[.int .u32 (a.s : Int), .int .u32 (a.d : Int), .int .u32 (a.p : Int), .int .u32 (a.q : Int), .int .u32 (a.r : Int)] 33)).alloc (.cells #[.int .u32 (b.s : Int), .int .u32 (b.d : Int), .int .u32 (b.p : Int), .int .u32 (b.q : Int), .int .u32 (b.r : Int)] 33))) := by show Below _ _ _; (repeat (first | assumption | exact Below.refl _ _ | refine Below.drew ?_ | refine bel_drewN ?_ _ | refine Below.setCell ?_ (by first | omega | (simp; done) | (simp; omega)) _ | refine Below.alloc ?_ (by first | omega | (simp; done) | (simp; omega)) _ | refine bel_of ?_ (by assumption)))
  generalize ((((w.alloc (.cells #[.int .u32 (a.s : Int), .int .u32 (a.d : Int), .int .u16 (a.p : Int), .int .u16 (a.q : Int), .int .u8 (a.r : Int)] 36)).alloc (.cells #[.int .u32 (b.s : Int), .int .u32 (b.d : Int), .int .u16 (b.p : Int), .int .u16 (b.q : Int), .int .u8 (b.r : Int)] 36)).alloc (.cells #[.int .u32 (a.s : Int), .int .u32 (a.d : Int), .int .u32 (a.p : Int), .int .u32 (a.q : Int), .int .u32 (a.r : Int)] 33)).alloc (.cells #[.int .u32 (b.s : Int), .int .u32 (b.d : Int), .int .u32 (b.p : Int), .int .u32 (b.q : Int), .int .u32 (b.r : Int)] 33)) = W at *
  go_loopw [7] (fun iv wr => ∃ k d : Nat, k ≤ 5 ∧ iv = .int .i64 (k : Int) ∧ Hid (∀ j, j < k → fl a j = fl b j) ∧ wr = W.drewN d) (fun iv _ => 5 - (intOf iv).toNat)
  case atStart => exact ⟨0, 0, Nat.zero_le _, rfl, fun j hj => absurd hj (by omega), rfl⟩
  case round =>
    obtain ⟨k, d, hk, rfl, hs, rfl⟩ := hrel
    by_cases hlt : k < 5
    · have x0 := cx k hlt
      have y0 := cy k hlt
      have HF : Hid (fl a k < fl b k → C = -1) := HL.out k hlt hs.out
      have HG : Hid (fl b k < fl a k → C = 1) := HM.out k hlt hs.out
      have HS : Hid (fl a k = fl b k → ∀ j, j < k + 1 → fl a j = fl b j) := fun he j hj => by
        by_cases ej : j = k
        · rw [ej]; exact he
        · exact hs.out j (by omega)
      have l1 := (hfa k).out
      have l2 := (hfb k).out
      generalize fl a k = X at *
      generalize fl b k = Y at *
      have hlt' : (k : Int) < 5 := by omega
      have hk0 : (0 : Int) ≤ (k : Int) := by omega
      clear cx cy HL HM HN hfa hfb
      rcases Nat.lt_trichotomy X Y with hc | hc | hc
      · obtain rfl := HF.out hc
        have hc' : (X : Int) < (Y : Int) := by omega
        clear HF HG HS
        go_wp2
        go_quiet (fail)
        go_wp2
        go_ret
        exact ⟨rfl, bel_drewN (bel_drewN HB.out _) _⟩
      · subst hc
        have hn : ¬ (X : Int) < (X : Int) := by omega
        go_wp2
        go_quiet (fail)
        go_wp2
        go_quiet (fail)
        go_wp2
        go_roundw
        case rel => exact ⟨k + 1, _, by omega, by go_num, HS.out (by first | rfl | trivial), by first | rfl | trivial⟩
        case measure => simp [intOf]; omega
      · obtain rfl := HG.out hc
        have hn : ¬ (X : Int) < (Y : Int) := by omega
        have hn2 : (Y : Int) < (X : Int) := by omega
        clear HF HG HS
        go_wp2
        go_quiet (fail)
        go_wp2
        go_quiet (fail)
        go_wp2
        go_ret
        exact ⟨rfl, bel_drewN (bel_drewN (bel_drewN HB.out _) _) _⟩
    · obtain rfl : k = 5 := by omega
      obtain rfl := HN.out hs.out
      go_wp2
      go_ret
      exact ⟨rfl, bel_drewN HB.out _⟩
end Go.Proofs.Ythfjdoenofkghaa
