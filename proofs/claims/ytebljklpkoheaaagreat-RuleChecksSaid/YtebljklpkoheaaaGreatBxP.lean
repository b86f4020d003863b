/-
  What the functions of the five fields answer: check, count, bring; checkRun, countRun.
-/
import Derived.Test.YtebljklpkoheaaaGreatBxS
import Derived.Test.YtebljklpkoheaaaGreatBxF
import Derived.Test.YtebljklpkoheaaaGreatBxW
import Derived.Test.YtebljklpkoheaaaGreatMkA
namespace Go.Proofs.YtebljklpkoheaaaGreat
open Go.RowKit
set_option linter.unusedVariables false
set_option linter.unusedSimpArgs false

def chkR (a b : Nat) : Int := if b < a then 70 else 0
theorem checkR (a b : Nat) (w : World) :
    Calls Tryz.prog 81 #[.agg #[.int .u32 (a : Int), .int .u32 (b : Int)]] w fun e w' => e = .returned (.int .i64 (chkR a b)) ∧ Below w.heap.size w w' := by
  by_cases h : b < a
  · rw [show chkR a b = 70 from if_pos h]
    have h' : (b : Int) < (a : Int) := by omega
    clear h
    go_enter Tryz.func81, Tryz.ntmps81
    go_wp2
    go_ret
    exact ⟨rfl, by (repeat (first | assumption | exact Below.refl _ _ | refine Below.drew ?_ | refine bel_drewN ?_ _ | refine Below.setCell ?_ (by first | omega | (simp; done) | (simp; omega)) _ | refine Below.alloc ?_ (by first | omega | (simp; done) | (simp; omega)) _ | refine bel_of ?_ (by assumption)))⟩
  · rw [show chkR a b = 0 from if_neg h]
    have h' : ¬ (b : Int) < (a : Int) := by omega
    clear h
    go_enter Tryz.func81, Tryz.ntmps81
    go_wp2
    go_ret
    exact ⟨rfl, by (repeat (first | assumption | exact Below.refl _ _ | refine Below.drew ?_ | refine bel_drewN ?_ _ | refine Below.setCell ?_ (by first | omega | (simp; done) | (simp; omega)) _ | refine Below.alloc ?_ (by first | omega | (simp; done) | (simp; omega)) _ | refine bel_of ?_ (by assumption)))⟩
theorem countR (a b : Nat) (w : World) (ha : a < 4294967296) (hb : b < 4294967296) :
    Calls Tryz.prog 83 #[.agg #[.int .u32 (a : Int), .int .u32 (b : Int)]] w fun e w' => e = .returned (.int .u64 (cntS a b : Int)) ∧ Below w.heap.size w w' := by
  by_cases h : b < a
  · have hk : chkR a b = 70 := if_pos h
    have hc : cntS a b = 0 := by unfold cntS; omega
    rw [hc]
    have H : Hid (chkR a b = 70) := hk
    clear h hk hc
    go_enter Tryz.func83, Tryz.ntmps83
    go_wp2_with (go_at_call 81; refine (checkR a b _).mono ?_; rw [H.out]; rintro e w1 ⟨rfl, hb1⟩)
    go_ret
    exact ⟨rfl, by (repeat (first | assumption | exact Below.refl _ _ | refine Below.drew ?_ | refine bel_drewN ?_ _ | refine Below.setCell ?_ (by first | omega | (simp; done) | (simp; omega)) _ | refine Below.alloc ?_ (by first | omega | (simp; done) | (simp; omega)) _ | refine bel_of ?_ (by assumption)))⟩
  · have hk : chkR a b = 0 := if_neg h
    have hc : (cntS a b : Int) = (b : Int) - (a : Int) + 1 := by unfold cntS; omega
    rw [hc]
    have H : Hid (chkR a b = 0) := hk
    have h' : (a : Int) ≤ (b : Int) := by omega
    clear h hk hc
    go_enter Tryz.func83, Tryz.ntmps83
    go_wp2_with (go_at_call 81; refine (checkR a b _).mono ?_; rw [H.out]; rintro e w1 ⟨rfl, hb1⟩; obtain ⟨hc1, hf1⟩ := bcell hb1; have hz1 := hb1.size; simp at hz1; have hl1 : w.heap.size < w1.heap.size := by omega)
    go_ret
    refine ⟨ret_int ?_, by (repeat (first | assumption | exact Below.refl _ _ | refine Below.drew ?_ | refine bel_drewN ?_ _ | refine Below.setCell ?_ (by first | omega | (simp; done) | (simp; omega)) _ | refine Below.alloc ?_ (by first | omega | (simp; done) | (simp; omega)) _ | refine bel_of ?_ (by assumption)))⟩
    omega

theorem src1 (X : Bx) (w : World) (b : BdX X) :
    Calls Tryz.prog 80 #[.agg #[.int .u32 (X.a.1 : Int), .int .u32 (X.a.2 : Int), .int .u32 (X.b.1 : Int), .int .u32 (X.b.2 : Int), .int .u16 (X.c.1 : Int), .int .u16 (X.c.2 : Int), .int .u16 (X.d.1 : Int), .int .u16 (X.d.2 : Int), .int .u8 (X.m.1 : Int), .int .u8 (X.m.2 : Int)]] w fun e w' => e = .returned (.int .i64 (chkR X.a.1 X.a.2)) ∧ Below w.heap.size w w' := by
  have hM := fun W => (checkR X.a.1 X.a.2 W)
  clear b
  go_enter Tryz.func80, Tryz.ntmps80
  go_wp2_with (fail)
  refine (hM _).mono ?_
  rintro e w1 ⟨rfl, hb1⟩
  go_wp2
  go_ret
  exact ⟨rfl, by (repeat (first | assumption | exact Below.refl _ _ | refine Below.drew ?_ | refine bel_drewN ?_ _ | refine Below.setCell ?_ (by first | omega | (simp; done) | (simp; omega)) _ | refine Below.alloc ?_ (by first | omega | (simp; done) | (simp; omega)) _ | refine bel_of ?_ (by assumption)))⟩
theorem src2 (X : Bx) (w : World) (b : BdX X) :
    Calls Tryz.prog 82 #[.agg #[.int .u32 (X.a.1 : Int), .int .u32 (X.a.2 : Int), .int .u32 (X.b.1 : Int), .int .u32 (X.b.2 : Int), .int .u16 (X.c.1 : Int), .int .u16 (X.c.2 : Int), .int .u16 (X.d.1 : Int), .int .u16 (X.d.2 : Int), .int .u8 (X.m.1 : Int), .int .u8 (X.m.2 : Int)]] w fun e w' => e = .returned (.int .u64 ((cntI X.a : Nat) : Int)) ∧ Below w.heap.size w w' := by
  have hM : ∀ W, Calls Tryz.prog 83 #[.agg #[.int .u32 (X.a.1 : Int), .int .u32 (X.a.2 : Int)]] W fun e w' => e = .returned (.int .u64 ((cntI X.a : Nat) : Int)) ∧ Below W.heap.size W w' := fun W => countR X.a.1 X.a.2 W b.1 b.2.1
  clear b
  go_enter Tryz.func82, Tryz.ntmps82
  go_wp2_with (fail)
  refine (hM _).mono ?_
  rintro e w1 ⟨rfl, hb1⟩
  go_wp2
  go_ret
  exact ⟨rfl, by (repeat (first | assumption | exact Below.refl _ _ | refine Below.drew ?_ | refine bel_drewN ?_ _ | refine Below.setCell ?_ (by first | omega | (simp; done) | (simp; omega)) _ | refine Below.alloc ?_ (by first | omega | (simp; done) | (simp; omega)) _ | refine bel_of ?_ (by assumption)))⟩
theorem dst1 (X : Bx) (w : World) (b : BdX X) :
    Calls Tryz.prog 91 #[.agg #[.int .u32 (X.a.1 : Int), .int .u32 (X.a.2 : Int), .int .u32 (X.b.1 : Int), .int .u32 (X.b.2 : Int), .int .u16 (X.c.1 : Int), .int .u16 (X.c.2 : Int), .int .u16 (X.d.1 : Int), .int .u16 (X.d.2 : Int), .int .u8 (X.m.1 : Int), .int .u8 (X.m.2 : Int)]] w fun e w' => e = .returned (.int .i64 (chkR X.b.1 X.b.2)) ∧ Below w.heap.size w w' := by
  have hM := fun W => (checkR X.b.1 X.b.2 W)
  clear b
  go_enter Tryz.func91, Tryz.ntmps91
  go_wp2_with (fail)
  refine (hM _).mono ?_
  rintro e w1 ⟨rfl, hb1⟩
  go_wp2
  go_ret
  exact ⟨rfl, by (repeat (first | assumption | exact Below.refl _ _ | refine Below.drew ?_ | refine bel_drewN ?_ _ | refine Below.setCell ?_ (by first | omega | (simp; done) | (simp; omega)) _ | refine Below.alloc ?_ (by first | omega | (simp; done) | (simp; omega)) _ | refine bel_of ?_ (by assumption)))⟩
theorem dst2 (X : Bx) (w : World) (b : BdX X) :
    Calls Tryz.prog 92 #[.agg #[.int .u32 (X.a.1 : Int), .int .u32 (X.a.2 : Int), .int .u32 (X.b.1 : Int), .int .u32 (X.b.2 : Int), .int .u16 (X.c.1 : Int), .int .u16 (X.c.2 : Int), .int .u16 (X.d.1 : Int), .int .u16 (X.d.2 : Int), .int .u8 (X.m.1 : Int), .int .u8 (X.m.2 : Int)]] w fun e w' => e = .returned (.int .u64 ((cntI X.b : Nat) : Int)) ∧ Below w.heap.size w w' := by
  have hM : ∀ W, Calls Tryz.prog 83 #[.agg #[.int .u32 (X.b.1 : Int), .int .u32 (X.b.2 : Int)]] W fun e w' => e = .returned (.int .u64 ((cntI X.b : Nat) : Int)) ∧ Below W.heap.size W w' := fun W => countR X.b.1 X.b.2 W b.2.2.1 b.2.2.2.1
  clear b
  go_enter Tryz.func92, Tryz.ntmps92
  go_wp2_with (fail)
  refine (hM _).mono ?_
  rintro e w1 ⟨rfl, hb1⟩
  go_wp2
  go_ret
  exact ⟨rfl, by (repeat (first | assumption | exact Below.refl _ _ | refine Below.drew ?_ | refine bel_drewN ?_ _ | refine Below.setCell ?_ (by first | omega | (simp; done) | (simp; omega)) _ | refine Below.alloc ?_ (by first | omega | (simp; done) | (simp; omega)) _ | refine bel_of ?_ (by assumption)))⟩
theorem sport1 (X : Bx) (w : World) (b : BdX X) :
    Calls Tryz.prog 97 #[.agg #[.int .u32 (X.a.1 : Int), .int .u32 (X.a.2 : Int), .int .u32 (X.b.1 : Int), .int .u32 (X.b.2 : Int), .int .u16 (X.c.1 : Int), .int .u16 (X.c.2 : Int), .int .u16 (X.d.1 : Int), .int .u16 (X.d.2 : Int), .int .u8 (X.m.1 : Int), .int .u8 (X.m.2 : Int)]] w fun e w' => e = .returned (.int .i64 (chkS X.c.1 X.c.2)) ∧ Below w.heap.size w w' := by
  have hM := fun W => (checkS X.c.1 X.c.2 W)
  clear b
  go_enter Tryz.func97, Tryz.ntmps97
  go_wp2_with (fail)
  refine (hM _).mono ?_
  rintro e w1 ⟨rfl, hb1⟩
  go_wp2
  go_ret
  exact ⟨rfl, by (repeat (first | assumption | exact Below.refl _ _ | refine Below.drew ?_ | refine bel_drewN ?_ _ | refine Below.setCell ?_ (by first | omega | (simp; done) | (simp; omega)) _ | refine Below.alloc ?_ (by first | omega | (simp; done) | (simp; omega)) _ | refine bel_of ?_ (by assumption)))⟩
theorem sport2 (X : Bx) (w : World) (b : BdX X) :
    Calls Tryz.prog 98 #[.agg #[.int .u32 (X.a.1 : Int), .int .u32 (X.a.2 : Int), .int .u32 (X.b.1 : Int), .int .u32 (X.b.2 : Int), .int .u16 (X.c.1 : Int), .int .u16 (X.c.2 : Int), .int .u16 (X.d.1 : Int), .int .u16 (X.d.2 : Int), .int .u8 (X.m.1 : Int), .int .u8 (X.m.2 : Int)]] w fun e w' => e = .returned (.int .u64 ((cntI X.c : Nat) : Int)) ∧ Below w.heap.size w w' := by
  have hbd : cntI X.c ≤ 65536 := by have h1 := b.2.2.2.2.1; have h2 := b.2.2.2.2.2.1; have h3 := b.2.2.2.2.2.2.1; have h4 := b.2.2.2.2.2.2.2.1; unfold cntI; omega
  have hM : ∀ W, Calls Tryz.prog 99 #[.agg #[.int .u16 (X.c.1 : Int), .int .u16 (X.c.2 : Int)]] W fun e w' => e = .returned (.int .i64 ((cntI X.c : Nat) : Int)) ∧ Below W.heap.size W w' := fun W => countS X.c.1 X.c.2 W b.2.2.2.2.1 b.2.2.2.2.2.1
  clear b
  obtain ⟨n, hn⟩ : ∃ n, n = cntI X.c := ⟨_, rfl⟩
  rw [← hn] at hM hbd ⊢
  clear hn
  go_enter Tryz.func98, Tryz.ntmps98
  go_wp2_with (fail)
  refine (hM _).mono ?_
  rintro e w1 ⟨rfl, hb1⟩
  have hi1 : ((n : Nat) : Int) ≤ 65536 := by omega
  have hi0 : (0 : Int) ≤ ((n : Nat) : Int) := by omega
  go_wp2
  go_ret
  exact ⟨ret_int (by omega), by (repeat (first | assumption | exact Below.refl _ _ | refine Below.drew ?_ | refine bel_drewN ?_ _ | refine Below.setCell ?_ (by first | omega | (simp; done) | (simp; omega)) _ | refine Below.alloc ?_ (by first | omega | (simp; done) | (simp; omega)) _ | refine bel_of ?_ (by assumption)))⟩
theorem dport1 (X : Bx) (w : World) (b : BdX X) :
    Calls Tryz.prog 106 #[.agg #[.int .u32 (X.a.1 : Int), .int .u32 (X.a.2 : Int), .int .u32 (X.b.1 : Int), .int .u32 (X.b.2 : Int), .int .u16 (X.c.1 : Int), .int .u16 (X.c.2 : Int), .int .u16 (X.d.1 : Int), .int .u16 (X.d.2 : Int), .int .u8 (X.m.1 : Int), .int .u8 (X.m.2 : Int)]] w fun e w' => e = .returned (.int .i64 (chkS X.d.1 X.d.2)) ∧ Below w.heap.size w w' := by
  have hM := fun W => (checkS X.d.1 X.d.2 W)
  clear b
  go_enter Tryz.func106, Tryz.ntmps106
  go_wp2_with (fail)
  refine (hM _).mono ?_
  rintro e w1 ⟨rfl, hb1⟩
  go_wp2
  go_ret
  exact ⟨rfl, by (repeat (first | assumption | exact Below.refl _ _ | refine Below.drew ?_ | refine bel_drewN ?_ _ | refine Below.setCell ?_ (by first | omega | (simp; done) | (simp; omega)) _ | refine Below.alloc ?_ (by first | omega | (simp; done) | (simp; omega)) _ | refine bel_of ?_ (by assumption)))⟩
theorem dport2 (X : Bx) (w : World) (b : BdX X) :
    Calls Tryz.prog 107 #[.agg #[.int .u32 (X.a.1 : Int), .int .u32 (X.a.2 : Int), .int .u32 (X.b.1 : Int), .int .u32 (X.b.2 : Int), .int .u16 (X.c.1 : Int), .int .u16 (X.c.2 : Int), .int .u16 (X.d.1 : Int), .int .u16 (X.d.2 : Int), .int .u8 (X.m.1 : Int), .int .u8 (X.m.2 : Int)]] w fun e w' => e = .returned (.int .u64 ((cntI X.d : Nat) : Int)) ∧ Below w.heap.size w w' := by
  have hbd : cntI X.d ≤ 65536 := by have h1 := b.2.2.2.2.1; have h2 := b.2.2.2.2.2.1; have h3 := b.2.2.2.2.2.2.1; have h4 := b.2.2.2.2.2.2.2.1; unfold cntI; omega
  have hM : ∀ W, Calls Tryz.prog 99 #[.agg #[.int .u16 (X.d.1 : Int), .int .u16 (X.d.2 : Int)]] W fun e w' => e = .returned (.int .i64 ((cntI X.d : Nat) : Int)) ∧ Below W.heap.size W w' := fun W => countS X.d.1 X.d.2 W b.2.2.2.2.2.2.1 b.2.2.2.2.2.2.2.1
  clear b
  obtain ⟨n, hn⟩ : ∃ n, n = cntI X.d := ⟨_, rfl⟩
  rw [← hn] at hM hbd ⊢
  clear hn
  go_enter Tryz.func107, Tryz.ntmps107
  go_wp2_with (fail)
  refine (hM _).mono ?_
  rintro e w1 ⟨rfl, hb1⟩
  have hi1 : ((n : Nat) : Int) ≤ 65536 := by omega
  have hi0 : (0 : Int) ≤ ((n : Nat) : Int) := by omega
  go_wp2
  go_ret
  exact ⟨ret_int (by omega), by (repeat (first | assumption | exact Below.refl _ _ | refine Below.drew ?_ | refine bel_drewN ?_ _ | refine Below.setCell ?_ (by first | omega | (simp; done) | (simp; omega)) _ | refine Below.alloc ?_ (by first | omega | (simp; done) | (simp; omega)) _ | refine bel_of ?_ (by assumption)))⟩
theorem proto1 (X : Bx) (w : World) (b : BdX X) :
    Calls Tryz.prog 112 #[.agg #[.int .u32 (X.a.1 : Int), .int .u32 (X.a.2 : Int), .int .u32 (X.b.1 : Int), .int .u32 (X.b.2 : Int), .int .u16 (X.c.1 : Int), .int .u16 (X.c.2 : Int), .int .u16 (X.d.1 : Int), .int .u16 (X.d.2 : Int), .int .u8 (X.m.1 : Int), .int .u8 (X.m.2 : Int)]] w fun e w' => e = .returned (.int .i64 (chk X.m.1 X.m.2)) ∧ Below w.heap.size w w' := by
  have hM := fun W => (checkM X.m.1 X.m.2 W b.2.2.2.2.2.2.2.2.1 b.2.2.2.2.2.2.2.2.2)
  clear b
  go_enter Tryz.func112, Tryz.ntmps112
  go_wp2_with (fail)
  refine (hM _).mono ?_
  rintro e w1 ⟨rfl, hb1⟩
  go_wp2
  go_ret
  exact ⟨rfl, by (repeat (first | assumption | exact Below.refl _ _ | refine Below.drew ?_ | refine bel_drewN ?_ _ | refine Below.setCell ?_ (by first | omega | (simp; done) | (simp; omega)) _ | refine Below.alloc ?_ (by first | omega | (simp; done) | (simp; omega)) _ | refine bel_of ?_ (by assumption)))⟩
theorem proto2 (X : Bx) (w : World) (b : BdX X) :
    Calls Tryz.prog 113 #[.agg #[.int .u32 (X.a.1 : Int), .int .u32 (X.a.2 : Int), .int .u32 (X.b.1 : Int), .int .u32 (X.b.2 : Int), .int .u16 (X.c.1 : Int), .int .u16 (X.c.2 : Int), .int .u16 (X.d.1 : Int), .int .u16 (X.d.2 : Int), .int .u8 (X.m.1 : Int), .int .u8 (X.m.2 : Int)]] w fun e w' => e = .returned (.int .u64 ((cntM X.m.1 X.m.2 : Nat) : Int)) ∧ Below w.heap.size w w' := by
  have hbd : cntM X.m.1 X.m.2 ≤ 65536 := by have := cntM_le X.m.1 X.m.2 b.2.2.2.2.2.2.2.2.1 b.2.2.2.2.2.2.2.2.2; omega
  have hM : ∀ W, Calls Tryz.prog 114 #[.agg #[.int .u8 (X.m.1 : Int), .int .u8 (X.m.2 : Int)]] W fun e w' => e = .returned (.int .i64 ((cntM X.m.1 X.m.2 : Nat) : Int)) ∧ Below W.heap.size W w' := fun W => countM X.m.1 X.m.2 W b.2.2.2.2.2.2.2.2.1 b.2.2.2.2.2.2.2.2.2
  clear b
  obtain ⟨n, hn⟩ : ∃ n, n = cntM X.m.1 X.m.2 := ⟨_, rfl⟩
  rw [← hn] at hM hbd ⊢
  clear hn
  go_enter Tryz.func113, Tryz.ntmps113
  go_wp2_with (fail)
  refine (hM _).mono ?_
  rintro e w1 ⟨rfl, hb1⟩
  have hi1 : ((n : Nat) : Int) ≤ 65536 := by omega
  have hi0 : (0 : Int) ≤ ((n : Nat) : Int) := by omega
  go_wp2
  go_ret
  exact ⟨ret_int (by omega), by (repeat (first | assumption | exact Below.refl _ _ | refine Below.drew ?_ | refine bel_drewN ?_ _ | refine Below.setCell ?_ (by first | omega | (simp; done) | (simp; omega)) _ | refine Below.alloc ?_ (by first | omega | (simp; done) | (simp; omega)) _ | refine bel_of ?_ (by assumption)))⟩
/-- A number that is brought into a run, a span. -/
def brI (s : Nat × Nat) (x : Nat) : Nat := min (max x s.1) s.2
/-- A protocol that is brought into a mask. -/
def brM (m : Nat × Nat) (x : Nat) : Nat := (x &&& (255 - m.2)) ||| m.1
theorem src3 (X : Bx) (h : Hd) (w : World) (b : BdX X) (o : OkH h) :
    Calls Tryz.prog 84 #[.agg #[.int .u32 (h.s : Int), .int .u32 (h.d : Int), .int .u16 (h.p : Int), .int .u16 (h.q : Int), .int .u8 (h.r : Int)], .agg #[.int .u32 (X.a.1 : Int), .int .u32 (X.a.2 : Int), .int .u32 (X.b.1 : Int), .int .u32 (X.b.2 : Int), .int .u16 (X.c.1 : Int), .int .u16 (X.c.2 : Int), .int .u16 (X.d.1 : Int), .int .u16 (X.d.2 : Int), .int .u8 (X.m.1 : Int), .int .u8 (X.m.2 : Int)]] w fun e w' => e = .returned (.agg #[.int .u32 ((⟨brI X.a h.s, h.d, h.p, h.q, h.r⟩ : Hd).s : Int), .int .u32 ((⟨brI X.a h.s, h.d, h.p, h.q, h.r⟩ : Hd).d : Int), .int .u16 ((⟨brI X.a h.s, h.d, h.p, h.q, h.r⟩ : Hd).p : Int), .int .u16 ((⟨brI X.a h.s, h.d, h.p, h.q, h.r⟩ : Hd).q : Int), .int .u8 ((⟨brI X.a h.s, h.d, h.p, h.q, h.r⟩ : Hd).r : Int)]) ∧ Below w.heap.size w w' := by
  obtain ⟨z, hz⟩ : ∃ z, z = brI X.a h.s := ⟨_, rfl⟩
  rw [← hz]
  clear b o
  have HZ : Hid (z = brI X.a h.s) := hz
  clear hz
  by_cases h1 : h.s < X.a.1
  · by_cases h2 : X.a.2 < X.a.1
    · obtain rfl : z = X.a.2 := by rw [HZ.out]; unfold brI; omega
      go_enter Tryz.func84, Tryz.ntmps84
      go_wp2
      exact bodyPost_ret (by simp [results, Tryz.results84, go_sem]) rfl ⟨rfl, by (repeat (first | assumption | exact Below.refl _ _ | refine Below.drew ?_ | refine bel_drewN ?_ _ | refine Below.setCell ?_ (by first | omega | (simp; done) | (simp; omega)) _ | refine Below.alloc ?_ (by first | omega | (simp; done) | (simp; omega)) _ | refine bel_of ?_ (by assumption)))⟩
    · obtain rfl : z = X.a.1 := by rw [HZ.out]; unfold brI; omega
      go_enter Tryz.func84, Tryz.ntmps84
      go_wp2
      exact bodyPost_ret (by simp [results, Tryz.results84, go_sem]) rfl ⟨rfl, by (repeat (first | assumption | exact Below.refl _ _ | refine Below.drew ?_ | refine bel_drewN ?_ _ | refine Below.setCell ?_ (by first | omega | (simp; done) | (simp; omega)) _ | refine Below.alloc ?_ (by first | omega | (simp; done) | (simp; omega)) _ | refine bel_of ?_ (by assumption)))⟩
  · by_cases h2 : X.a.2 < h.s
    · obtain rfl : z = X.a.2 := by rw [HZ.out]; unfold brI; omega
      go_enter Tryz.func84, Tryz.ntmps84
      go_wp2
      exact bodyPost_ret (by simp [results, Tryz.results84, go_sem]) rfl ⟨rfl, by (repeat (first | assumption | exact Below.refl _ _ | refine Below.drew ?_ | refine bel_drewN ?_ _ | refine Below.setCell ?_ (by first | omega | (simp; done) | (simp; omega)) _ | refine Below.alloc ?_ (by first | omega | (simp; done) | (simp; omega)) _ | refine bel_of ?_ (by assumption)))⟩
    · obtain rfl : z = h.s := by rw [HZ.out]; unfold brI; omega
      go_enter Tryz.func84, Tryz.ntmps84
      go_wp2
      exact bodyPost_ret (by simp [results, Tryz.results84, go_sem]) rfl ⟨rfl, by (repeat (first | assumption | exact Below.refl _ _ | refine Below.drew ?_ | refine bel_drewN ?_ _ | refine Below.setCell ?_ (by first | omega | (simp; done) | (simp; omega)) _ | refine Below.alloc ?_ (by first | omega | (simp; done) | (simp; omega)) _ | refine bel_of ?_ (by assumption)))⟩
theorem dst3 (X : Bx) (h : Hd) (w : World) (b : BdX X) (o : OkH h) :
    Calls Tryz.prog 93 #[.agg #[.int .u32 (h.s : Int), .int .u32 (h.d : Int), .int .u16 (h.p : Int), .int .u16 (h.q : Int), .int .u8 (h.r : Int)], .agg #[.int .u32 (X.a.1 : Int), .int .u32 (X.a.2 : Int), .int .u32 (X.b.1 : Int), .int .u32 (X.b.2 : Int), .int .u16 (X.c.1 : Int), .int .u16 (X.c.2 : Int), .int .u16 (X.d.1 : Int), .int .u16 (X.d.2 : Int), .int .u8 (X.m.1 : Int), .int .u8 (X.m.2 : Int)]] w fun e w' => e = .returned (.agg #[.int .u32 ((⟨h.s, brI X.b h.d, h.p, h.q, h.r⟩ : Hd).s : Int), .int .u32 ((⟨h.s, brI X.b h.d, h.p, h.q, h.r⟩ : Hd).d : Int), .int .u16 ((⟨h.s, brI X.b h.d, h.p, h.q, h.r⟩ : Hd).p : Int), .int .u16 ((⟨h.s, brI X.b h.d, h.p, h.q, h.r⟩ : Hd).q : Int), .int .u8 ((⟨h.s, brI X.b h.d, h.p, h.q, h.r⟩ : Hd).r : Int)]) ∧ Below w.heap.size w w' := by
  obtain ⟨z, hz⟩ : ∃ z, z = brI X.b h.d := ⟨_, rfl⟩
  rw [← hz]
  clear b o
  have HZ : Hid (z = brI X.b h.d) := hz
  clear hz
  by_cases h1 : h.d < X.b.1
  · by_cases h2 : X.b.2 < X.b.1
    · obtain rfl : z = X.b.2 := by rw [HZ.out]; unfold brI; omega
      go_enter Tryz.func93, Tryz.ntmps93
      go_wp2
      exact bodyPost_ret (by simp [results, Tryz.results93, go_sem]) rfl ⟨rfl, by (repeat (first | assumption | exact Below.refl _ _ | refine Below.drew ?_ | refine bel_drewN ?_ _ | refine Below.setCell ?_ (by first | omega | (simp; done) | (simp; omega)) _ | refine Below.alloc ?_ (by first | omega | (simp; done) | (simp; omega)) _ | refine bel_of ?_ (by assumption)))⟩
    · obtain rfl : z = X.b.1 := by rw [HZ.out]; unfold brI; omega
      go_enter Tryz.func93, Tryz.ntmps93
      go_wp2
      exact bodyPost_ret (by simp [results, Tryz.results93, go_sem]) rfl ⟨rfl, by (repeat (first | assumption | exact Below.refl _ _ | refine Below.drew ?_ | refine bel_drewN ?_ _ | refine Below.setCell ?_ (by first | omega | (simp; done) | (simp; omega)) _ | refine Below.alloc ?_ (by first | omega | (simp; done) | (simp; omega)) _ | refine bel_of ?_ (by assumption)))⟩
  · by_cases h2 : X.b.2 < h.d
    · obtain rfl : z = X.b.2 := by rw [HZ.out]; unfold brI; omega
      go_enter Tryz.func93, Tryz.ntmps93
      go_wp2
      exact bodyPost_ret (by simp [results, Tryz.results93, go_sem]) rfl ⟨rfl, by (repeat (first | assumption | exact Below.refl _ _ | refine Below.drew ?_ | refine bel_drewN ?_ _ | refine Below.setCell ?_ (by first | omega | (simp; done) | (simp; omega)) _ | refine Below.alloc ?_ (by first | omega | (simp; done) | (simp; omega)) _ | refine bel_of ?_ (by assumption)))⟩
    · obtain rfl : z = h.d := by rw [HZ.out]; unfold brI; omega
      go_enter Tryz.func93, Tryz.ntmps93
      go_wp2
      exact bodyPost_ret (by simp [results, Tryz.results93, go_sem]) rfl ⟨rfl, by (repeat (first | assumption | exact Below.refl _ _ | refine Below.drew ?_ | refine bel_drewN ?_ _ | refine Below.setCell ?_ (by first | omega | (simp; done) | (simp; omega)) _ | refine Below.alloc ?_ (by first | omega | (simp; done) | (simp; omega)) _ | refine bel_of ?_ (by assumption)))⟩
theorem sport3 (X : Bx) (h : Hd) (w : World) (b : BdX X) (o : OkH h) :
    Calls Tryz.prog 100 #[.agg #[.int .u32 (h.s : Int), .int .u32 (h.d : Int), .int .u16 (h.p : Int), .int .u16 (h.q : Int), .int .u8 (h.r : Int)], .agg #[.int .u32 (X.a.1 : Int), .int .u32 (X.a.2 : Int), .int .u32 (X.b.1 : Int), .int .u32 (X.b.2 : Int), .int .u16 (X.c.1 : Int), .int .u16 (X.c.2 : Int), .int .u16 (X.d.1 : Int), .int .u16 (X.d.2 : Int), .int .u8 (X.m.1 : Int), .int .u8 (X.m.2 : Int)]] w fun e w' => e = .returned (.agg #[.int .u32 ((⟨h.s, h.d, brI X.c h.p, h.q, h.r⟩ : Hd).s : Int), .int .u32 ((⟨h.s, h.d, brI X.c h.p, h.q, h.r⟩ : Hd).d : Int), .int .u16 ((⟨h.s, h.d, brI X.c h.p, h.q, h.r⟩ : Hd).p : Int), .int .u16 ((⟨h.s, h.d, brI X.c h.p, h.q, h.r⟩ : Hd).q : Int), .int .u8 ((⟨h.s, h.d, brI X.c h.p, h.q, h.r⟩ : Hd).r : Int)]) ∧ Below w.heap.size w w' := by
  obtain ⟨z, hz⟩ : ∃ z, z = brI X.c h.p := ⟨_, rfl⟩
  rw [← hz]
  clear b o
  have HZ : Hid (z = brI X.c h.p) := hz
  clear hz
  by_cases h1 : h.p < X.c.1
  · by_cases h2 : X.c.2 < X.c.1
    · obtain rfl : z = X.c.2 := by rw [HZ.out]; unfold brI; omega
      go_enter Tryz.func100, Tryz.ntmps100
      go_wp2
      exact bodyPost_ret (by simp [results, Tryz.results100, go_sem]) rfl ⟨rfl, by (repeat (first | assumption | exact Below.refl _ _ | refine Below.drew ?_ | refine bel_drewN ?_ _ | refine Below.setCell ?_ (by first | omega | (simp; done) | (simp; omega)) _ | refine Below.alloc ?_ (by first | omega | (simp; done) | (simp; omega)) _ | refine bel_of ?_ (by assumption)))⟩
    · obtain rfl : z = X.c.1 := by rw [HZ.out]; unfold brI; omega
      go_enter Tryz.func100, Tryz.ntmps100
      go_wp2
      exact bodyPost_ret (by simp [results, Tryz.results100, go_sem]) rfl ⟨rfl, by (repeat (first | assumption | exact Below.refl _ _ | refine Below.drew ?_ | refine bel_drewN ?_ _ | refine Below.setCell ?_ (by first | omega | (simp; done) | (simp; omega)) _ | refine Below.alloc ?_ (by first | omega | (simp; done) | (simp; omega)) _ | refine bel_of ?_ (by assumption)))⟩
  · by_cases h2 : X.c.2 < h.p
    · obtain rfl : z = X.c.2 := by rw [HZ.out]; unfold brI; omega
      go_enter Tryz.func100, Tryz.ntmps100
      go_wp2
      exact bodyPost_ret (by simp [results, Tryz.results100, go_sem]) rfl ⟨rfl, by (repeat (first | assumption | exact Below.refl _ _ | refine Below.drew ?_ | refine bel_drewN ?_ _ | refine Below.setCell ?_ (by first | omega | (simp; done) | (simp; omega)) _ | refine Below.alloc ?_ (by first | omega | (simp; done) | (simp; omega)) _ | refine bel_of ?_ (by assumption)))⟩
    · obtain rfl : z = h.p := by rw [HZ.out]; unfold brI; omega
      go_enter Tryz.func100, Tryz.ntmps100
      go_wp2
      exact bodyPost_ret (by simp [results, Tryz.results100, go_sem]) rfl ⟨rfl, by (repeat (first | assumption | exact Below.refl _ _ | refine Below.drew ?_ | refine bel_drewN ?_ _ | refine Below.setCell ?_ (by first | omega | (simp; done) | (simp; omega)) _ | refine Below.alloc ?_ (by first | omega | (simp; done) | (simp; omega)) _ | refine bel_of ?_ (by assumption)))⟩
theorem dport3 (X : Bx) (h : Hd) (w : World) (b : BdX X) (o : OkH h) :
    Calls Tryz.prog 108 #[.agg #[.int .u32 (h.s : Int), .int .u32 (h.d : Int), .int .u16 (h.p : Int), .int .u16 (h.q : Int), .int .u8 (h.r : Int)], .agg #[.int .u32 (X.a.1 : Int), .int .u32 (X.a.2 : Int), .int .u32 (X.b.1 : Int), .int .u32 (X.b.2 : Int), .int .u16 (X.c.1 : Int), .int .u16 (X.c.2 : Int), .int .u16 (X.d.1 : Int), .int .u16 (X.d.2 : Int), .int .u8 (X.m.1 : Int), .int .u8 (X.m.2 : Int)]] w fun e w' => e = .returned (.agg #[.int .u32 ((⟨h.s, h.d, h.p, brI X.d h.q, h.r⟩ : Hd).s : Int), .int .u32 ((⟨h.s, h.d, h.p, brI X.d h.q, h.r⟩ : Hd).d : Int), .int .u16 ((⟨h.s, h.d, h.p, brI X.d h.q, h.r⟩ : Hd).p : Int), .int .u16 ((⟨h.s, h.d, h.p, brI X.d h.q, h.r⟩ : Hd).q : Int), .int .u8 ((⟨h.s, h.d, h.p, brI X.d h.q, h.r⟩ : Hd).r : Int)]) ∧ Below w.heap.size w w' := by
  obtain ⟨z, hz⟩ : ∃ z, z = brI X.d h.q := ⟨_, rfl⟩
  rw [← hz]
  clear b o
  have HZ : Hid (z = brI X.d h.q) := hz
  clear hz
  by_cases h1 : h.q < X.d.1
  · by_cases h2 : X.d.2 < X.d.1
    · obtain rfl : z = X.d.2 := by rw [HZ.out]; unfold brI; omega
      go_enter Tryz.func108, Tryz.ntmps108
      go_wp2
      exact bodyPost_ret (by simp [results, Tryz.results108, go_sem]) rfl ⟨rfl, by (repeat (first | assumption | exact Below.refl _ _ | refine Below.drew ?_ | refine bel_drewN ?_ _ | refine Below.setCell ?_ (by first | omega | (simp; done) | (simp; omega)) _ | refine Below.alloc ?_ (by first | omega | (simp; done) | (simp; omega)) _ | refine bel_of ?_ (by assumption)))⟩
    · obtain rfl : z = X.d.1 := by rw [HZ.out]; unfold brI; omega
      go_enter Tryz.func108, Tryz.ntmps108
      go_wp2
      exact bodyPost_ret (by simp [results, Tryz.results108, go_sem]) rfl ⟨rfl, by (repeat (first | assumption | exact Below.refl _ _ | refine Below.drew ?_ | refine bel_drewN ?_ _ | refine Below.setCell ?_ (by first | omega | (simp; done) | (simp; omega)) _ | refine Below.alloc ?_ (by first | omega | (simp; done) | (simp; omega)) _ | refine bel_of ?_ (by assumption)))⟩
  · by_cases h2 : X.d.2 < h.q
    · obtain rfl : z = X.d.2 := by rw [HZ.out]; unfold brI; omega
      go_enter Tryz.func108, Tryz.ntmps108
      go_wp2
      exact bodyPost_ret (by simp [results, Tryz.results108, go_sem]) rfl ⟨rfl, by (repeat (first | assumption | exact Below.refl _ _ | refine Below.drew ?_ | refine bel_drewN ?_ _ | refine Below.setCell ?_ (by first | omega | (simp; done) | (simp; omega)) _ | refine Below.alloc ?_ (by first | omega | (simp; done) | (simp; omega)) _ | refine bel_of ?_ (by assumption)))⟩
    · obtain rfl : z = h.q := by rw [HZ.out]; unfold brI; omega
      go_enter Tryz.func108, Tryz.ntmps108
      go_wp2
      exact bodyPost_ret (by simp [results, Tryz.results108, go_sem]) rfl ⟨rfl, by (repeat (first | assumption | exact Below.refl _ _ | refine Below.drew ?_ | refine bel_drewN ?_ _ | refine Below.setCell ?_ (by first | omega | (simp; done) | (simp; omega)) _ | refine Below.alloc ?_ (by first | omega | (simp; done) | (simp; omega)) _ | refine bel_of ?_ (by assumption)))⟩
theorem proto3 (X : Bx) (h : Hd) (w : World) (b : BdX X) (o : OkH h) :
    Calls Tryz.prog 115 #[.agg #[.int .u32 (h.s : Int), .int .u32 (h.d : Int), .int .u16 (h.p : Int), .int .u16 (h.q : Int), .int .u8 (h.r : Int)], .agg #[.int .u32 (X.a.1 : Int), .int .u32 (X.a.2 : Int), .int .u32 (X.b.1 : Int), .int .u32 (X.b.2 : Int), .int .u16 (X.c.1 : Int), .int .u16 (X.c.2 : Int), .int .u16 (X.d.1 : Int), .int .u16 (X.d.2 : Int), .int .u8 (X.m.1 : Int), .int .u8 (X.m.2 : Int)]] w fun e w' => e = .returned (.agg #[.int .u32 ((⟨h.s, h.d, h.p, h.q, brM X.m h.r⟩ : Hd).s : Int), .int .u32 ((⟨h.s, h.d, h.p, h.q, brM X.m h.r⟩ : Hd).d : Int), .int .u16 ((⟨h.s, h.d, h.p, h.q, brM X.m h.r⟩ : Hd).p : Int), .int .u16 ((⟨h.s, h.d, h.p, h.q, brM X.m h.r⟩ : Hd).q : Int), .int .u8 ((⟨h.s, h.d, h.p, h.q, brM X.m h.r⟩ : Hd).r : Int)]) ∧ Below w.heap.size w w' := by
  have e1 : bits .andNot .u8 (h.r : Int) (X.m.2 : Int) = ((h.r &&& (255 - X.m.2) : Nat) : Int) := u8_andNot_nat _ _ o.2.2.2.2 b.2.2.2.2.2.2.2.2.2
  have e2 : bits .or .u8 ((h.r &&& (255 - X.m.2) : Nat) : Int) (X.m.1 : Int) = ((brM X.m h.r : Nat) : Int) := u8_or_nat _ _ (and_lt o.2.2.2.2) b.2.2.2.2.2.2.2.2.1
  obtain ⟨z, hz⟩ : ∃ z, z = brM X.m h.r := ⟨_, rfl⟩
  rw [← hz] at e2 ⊢
  generalize h.r &&& (255 - X.m.2) = y at e1 e2
  clear b o hz
  go_enter Tryz.func115, Tryz.ntmps115
  go_wp2
  exact bodyPost_ret (by simp [results, Tryz.results115, go_sem]) rfl ⟨rfl, by (repeat (first | assumption | exact Below.refl _ _ | refine Below.drew ?_ | refine bel_drewN ?_ _ | refine Below.setCell ?_ (by first | omega | (simp; done) | (simp; omega)) _ | refine Below.alloc ?_ (by first | omega | (simp; done) | (simp; omega)) _ | refine bel_of ?_ (by assumption)))⟩
end Go.Proofs.YtebljklpkoheaaaGreat
