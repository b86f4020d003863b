/-
  Turn.
-/
import Derived.Test.YtlfdlifmcabfjaaCvC
namespace Go.Proofs.Ytlfdlifmcabfjaa
open Go.RowKit
set_option linter.unusedVariables false
set_option linter.unusedSimpArgs false

theorem and3 (q : Int) : bits .and .i64 q 3 = q % 4 := by
  unfold bits
  have e : (BitVec.ofInt 64 q &&& BitVec.ofInt 64 3).toNat = (q % 4).toNat := by
    rw [BitVec.toNat_and, show (BitVec.ofInt 64 3).toNat = 2 ^ 2 - 1 from rfl, Nat.and_two_pow_sub_one_eq_mod, BitVec.toNat_ofInt]
    omega
  have h : (q % 4).toNat < 4 := by omega
  show IntKind.i64.wrap (((BitVec.ofInt 64 q &&& BitVec.ofInt 64 3).toNat : Nat) : Int) = _
  rw [e]
  simp [IntKind.bits, IntKind.signed, IntKind.wrap]
  omega
/-- A float with its sign turned. -/
def ngF (a : Nat) : Nat := Op.negFloat .f64 a
def trn (q : Int) (a b : Nat) : Nat × Nat := if q = 1 then (ngF b, a) else if q = 2 then (ngF a, ngF b) else if q = 3 then (b, ngF a) else (a, b)
theorem run_neg (a : Nat) (W : World) : (Op.unary .neg (.float .f64 a)).run Try.prog W = .ok (.float .f64 (ngF a)) W := rfl
theorem turn_any (a b : Nat) (q : Int) (w : World) :
    Calls Try.prog 15 #[.complex .f64 a b, .int .i64 q] w fun e w' => e = .returned (.complex .f64 (trn (q % 4) a b).1 (trn (q % 4) a b).2) ∧ w' = w := by
  have h := and3 q
  have hn := run_neg
  rcases (by omega : q % 4 = 0 ∨ q % 4 = 1 ∨ q % 4 = 2 ∨ q % 4 = 3) with e | e | e | e
  all_goals
    rw [e] at h ⊢
    go_enter Try.func15, Try.ntmps15
    go_wp2
    go_ret
    exact ⟨rfl, rfl⟩
set_option maxRecDepth 20000 in
/-- The document's point of a place. -/
theorem rat_any : ∀ (n : Nat) (p : Int) (w : World), n ≤ 16 → 0 ≤ p → p < 4 ^ n →
    Calls Try.prog 28 #[.int .i64 (n : Int), .int .i64 p] w fun e w' => e = .returned (.agg #[.int .i64 (hil n p).1, .int .i64 (hil n p).2]) ∧ Below w.heap.size w w'
  | 0, p, w, _, h0, h1 => by
    go_enter Try.func28, Try.ntmps28
    go_wp2
    exact bodyPost_ret (v := .agg #[.int .i64 0, .int .i64 0]) (by simp [results, Try.results28, go_sem]) rfl ⟨rfl, by (repeat (first | assumption | exact Below.refl _ _ | refine Below.drew ?_ | refine bel_drewN ?_ _ | refine Below.setCell ?_ (by first | omega | (simp; done) | (simp; omega)) _ | refine Below.alloc ?_ (by first | omega | (simp; done) | (simp; omega)) _ | refine bel_of ?_ (by assumption)))⟩
  | n + 1, p, w, hn, h0, h1 => by
    obtain ⟨a, b, c, d⟩ := dig_of n p h0 h1
    have ih := fun W => rat_any n (p % 4 ^ n) W (by omega) b c
    have hsq := hil_sq n (p % 4 ^ n) b c
    have hh : hil (n + 1) p = layP (2 ^ n) (p / 4 ^ n) (hil n (p % 4 ^ n)) := rfl
    rw [hh]
    clear hh
    have hp16 := pow_le16 (k := n) (by omega)
    have h20 := two_pos n
    have hp4 : p ≤ 4294967296 := by have := pow_le4 hn; omega
    have e4 : (2 : Int) ^ n * 2 ^ n = 4 ^ n := (four_two n).symm
    have hb4 : (4 : Int) ^ n ≤ 4294967296 := pow_le4 (by omega)
    have h4p := four_pos n
    obtain ⟨s1, s2, s3, s4⟩ := hsq
    generalize hil n (p % 4 ^ n) = z at *
    obtain ⟨x, y⟩ := z
    simp only at s1 s2 s3 s4 ih
    have hi : ((n + 1 : Nat) : Int) - 1 = (n : Int) := by omega
    have hne : ¬ (4 : Int) ^ n = 0 := by omega
    have hn1 : ¬ ((n + 1 : Nat) : Int) = 0 := by omega
    clear d c b h1
    have hn2 : (0 : Int) ≤ ((n + 1 : Nat) : Int) := by omega
    have hn3 : ((n + 1 : Nat) : Int) ≤ 16 := by omega
    generalize ((n + 1 : Nat) : Int) = N1 at hi hn1 hn2 hn3 ⊢
    rcases a with e | e | e | e
    all_goals
      rw [e]
      go_enter Try.func28, Try.ntmps28
      go_wp2_with (go_at_call 28; refine (ih _).mono ?_; rintro e1 w1 ⟨rfl, hb1⟩; obtain ⟨hc1, hf1⟩ := bcell hb1; have hz1 : w.heap.size < w1.heap.size := (by have := hb1.size; simp at this; omega); have hz2 : ¬ w.heap.size = w1.heap.size := (by omega); have hz3 : ¬ w1.heap.size = w.heap.size := (by omega); replace hb1 : Hid _ := hb1)
      refine bodyPost_ret (v := .agg #[_, _]) (by simp [results, Try.results28, go_sem, hc1, hz1, hz2, hz3]; exact ⟨rfl, rfl⟩) rfl ⟨rfl, ?_⟩
      have hb := hb1.out
      (repeat (first | assumption | exact Below.refl _ _ | refine Below.drew ?_ | refine bel_drewN ?_ _ | refine Below.setCell ?_ (by first | omega | (simp; done) | (simp; omega)) _ | refine Below.alloc ?_ (by first | omega | (simp; done) | (simp; omega)) _ | refine bel_of ?_ (by assumption)))
end Go.Proofs.Ytlfdlifmcabfjaa
