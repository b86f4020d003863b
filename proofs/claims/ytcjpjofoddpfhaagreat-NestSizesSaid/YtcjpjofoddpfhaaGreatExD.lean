/-
  The document's answer: Of, ports, Back, Least (where the zero value of a set of ports is not written out in parts: ExZb).
-/
import Derived.Test.YtcjpjofoddpfhaaGreatExZb
import Derived.Test.YtcjpjofoddpfhaaGreatExC
namespace Go.Proofs.YtcjpjofoddpfhaaGreat.Xp
open Go.RowKit
set_option linter.unusedVariables false
set_option linter.unusedSimpArgs false

/-- Only the ports below 65536 count. -/
theorem ah_congr {p q : Nat → Bool} : ∀ n, (∀ i, i < n → p i = q i) → ah p n = ah q n
  | 0, _ => rfl
  | n + 1, h => by
    show ah p n + _ = ah q n + _
    rw [ah_congr n fun i hi => h i (by omega), h n (by omega)]
theorem tl_congr {p q : Nat → Bool} (h : ∀ i, i < 65536 → p i = q i) : ∀ (f a : Nat), a + 2 ^ f ≤ 65536 → tl p f a = tl q f a := by
  intro f
  induction f with
  | zero =>
    intro a ha
    unfold tl
    rw [ah_congr (a + 1) fun i hi => h i (by rw [Nat.pow_zero] at ha; omega), ah_congr a fun i hi => h i (by rw [Nat.pow_zero] at ha; omega)]
  | succ f ih =>
    intro a ha
    have hp : 0 < 2 ^ f := Nat.pow_pos (by decide)
    have e : 2 ^ (f + 1) = 2 ^ f + 2 ^ f := by rw [Nat.pow_succ]; omega
    unfold tl
    rw [ah_congr (a + 2 ^ (f + 1)) fun i hi => h i (by omega), ah_congr a fun i hi => h i (by omega), ih a (by omega), ih (a + 2 ^ f) (by omega)]
theorem rof_no (lo hi : Nat) (w : World) (h : hi < lo) :
    Calls Tryz.prog 68 #[.agg #[.int .u16 lo, .int .u16 hi]] w fun e w' => e = .returned (.tuple #[.slice none 0 0, .int .i64 30]) ∧ Below w.heap.size w w' := by
  have h' : (hi : Int) < (lo : Int) := by omega
  go_enter Tryz.func68, Tryz.ntmps68
  go_wp2
  go_ret2
  exact ⟨rfl, by (repeat (first | assumption | exact Below.refl _ _ | refine Below.drew ?_ | refine bel_drewN ?_ _ | refine Below.setCell ?_ (by first | omega | (simp; done) | (simp; omega)) _ | refine Below.alloc ?_ (by first | omega | (simp; done) | (simp; omega)) _ | refine bel_of ?_ (by assumption)))⟩
set_option maxHeartbeats 1000000 in
theorem rof_ok (lo hi : Nat) (w : World) (h : lo ≤ hi) (hh : hi < 65536) :
    Calls Tryz.prog 68 #[.agg #[.int .u16 lo, .int .u16 hi]] w fun e w' => ∃ v' : Value, e = .returned (.tuple #[v', .int .i64 0]) ∧ RowT w' w.heap.size v' (tl (hasB (lo, hi)) 16 0) ∧ Below w.heap.size w w' := by
  obtain ⟨cs, hz, hsz, hall⟩ := zero_ports
  have hbuild := run_zero_ports hz
  have hne := ports_ne hsz
  have hnew : Hid (PortsAt ((w.alloc (.cells #[.int .u16 lo, .int .u16 hi] 47)).alloc (.cells cs 121)) (w.heap.size + 1) (fun _ => false)) := by
    have := PortsAt.new (w.alloc (.cells #[.int .u16 lo, .int .u16 hi] 47)) hsz hall
    show PortsAt _ _ _
    simpa using this
  have h' : ¬ (hi : Int) < (lo : Int) := by omega
  clear hall hz
  go_enter Tryz.func68, Tryz.ntmps68
  go_wp2_with (fail)
  refine (addS lo hi (by omega) hh (w.heap.size + 1) _ _ hnew.out).mono ?_
  rintro e w1 ⟨rfl, hP, hbt⟩
  have HP : Hid (PortsAt w1 (w.heap.size + 1) (fun i => false || hasB (lo, hi) i)) := hP
  have HB : Hid (Below w.heap.size w w1) := But.below (((Below.refl _ _).alloc (Nat.le_refl _) _).alloc (by simp) _) hbt (by simp; omega) (by omega)
  have hz1 := HB.out.size
  clear hP hbt hnew hbuild
  go_wp2_with (fail)
  refine (TiledT (w.heap.size + 1) _ _ HP.out).mono ?_
  rintro e w2 ⟨v2, rfl, r2, hb2⟩
  have R2 : Hid (RowT w2 w.heap.size v2 (tl (hasB (lo, hi)) 16 0)) := by
    have := r2.base hz1
    rw [tl_congr (p := fun i => false || hasB (lo, hi) i) (q := hasB (lo, hi)) (fun i _ => by simp) 16 0 (by decide)] at this
    exact this
  have B2 : Hid (Below w.heap.size w w2) := HB.out.trans (hb2.mono hz1)
  clear r2 hb2 HP HB
  go_wp2_with (fail)
  go_ret2
  exact ⟨_, rfl, R2.out, B2.out⟩
end Go.Proofs.YtcjpjofoddpfhaaGreat.Xp
