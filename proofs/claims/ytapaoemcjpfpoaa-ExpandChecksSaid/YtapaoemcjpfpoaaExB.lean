/-
  The document's fewest stems of a set of ports: tiled, by halves over the counts of what lies ahead.
-/
import Derived.Test.YtapaoemcjpfpoaaExU
import Derived.Deep.AppendLies
namespace Go.Proofs.Ytapaoemcjpfpoaa
open Go.RowKit
set_option linter.unusedVariables false
set_option linter.unusedSimpArgs false

/-- The counts of what lies ahead of each place, in memory. -/
def Ahead (w : World) (v : Value) (p : Nat → Bool) : Prop :=
  ∃ g, v = .slice (some ⟨g, 0, none⟩) 65537 65537 ∧ ∀ i, i ≤ 65536 → w.cell? ⟨g, i, none⟩ = some (.int .i64 ((ah p i : Nat) : Int))
theorem Ahead.on {w w1 : World} {v : Value} {p : Nat → Bool} (h : Ahead w v p) (hb : Below w.heap.size w w1) : Ahead w1 v p := by
  obtain ⟨g, hv, hc⟩ := h
  exact ⟨g, hv, fun i hi => cell_on1 hb (hc i hi)⟩
theorem tl_len (p : Nat → Bool) : ∀ (f a : Nat), (tl p f a).length ≤ 2 ^ f := by
  intro f
  induction f with
  | zero => intro a; unfold tl; split <;> simp
  | succ f ih =>
    intro a
    have hp : 0 < 2 ^ f := Nat.pow_pos (by decide)
    have e : 2 ^ (f + 1) = 2 ^ f + 2 ^ f := by rw [Nat.pow_succ]; omega
    by_cases h1 : full p a (2 ^ (f + 1))
    · rw [tl_full h1]; simp; omega
    · by_cases h2 : bare p a (2 ^ (f + 1))
      · rw [tl_bare h2]; simp
      · rw [tl_halves h1 h2, List.length_append]
        have := ih a
        have := ih (a + 2 ^ f)
        omega
set_option maxHeartbeats 2000000 in
theorem tiled_full (p : Nat → Bool) (m a : Nat) (v : Value) (w : World) (hm : m ≤ 16) (ha : a + 2 ^ (16 - m) ≤ 65536) (hA : Ahead w v p) (h : full p a (2 ^ (16 - m))) :
    Calls Try.prog 44 #[v, .int .i64 a, .int .i64 m] w fun e w' => ∃ v' : Value, e = .returned v' ∧ RowT w' w.heap.size v' [(a, m)] ∧ Below w.heap.size w w' := by
  obtain ⟨g, rfl, hc⟩ := hA
  have x0 := hc (a + 2 ^ (16 - m)) ha
  have x1 := hc a (Nat.le_trans (Nat.le_add_right _ _) ha)
  rw [(ah_full p a _).2 h] at x0
  have hle := ah_le p a
  have hp : 0 < 2 ^ (16 - m) := Nat.pow_pos (by decide)
  have hm' : (m : Int) ≤ 16 := by omega
  obtain ⟨Z, hZ⟩ : ∃ Z : Nat, Z = 2 ^ (16 - m) := ⟨_, rfl⟩
  have hZi : (2 : Int) ^ (16 - m) = (Z : Int) := by rw [hZ]; simp
  rw [← hZ] at ha x0 hp
  generalize ah p a = A at *
  clear hc h hZ
  have b1 : (0 : Int) ≤ (a : Int) + (Z : Int) := by omega
  have b2 : (a : Int) + (Z : Int) < 65537 := by omega
  have b3 : (0 : Int) ≤ (a : Int) := by omega
  have b4 : (a : Int) < 65537 := by omega
  have b5 : (a : Int) < 65536 := by omega
  have e1 : (A : Int) + (Z : Int) - (A : Int) = (Z : Int) := by omega
  have e2 : (a : Int) % 65536 = (a : Int) := by omega
  go_enter Try.func44, Try.ntmps44
  go_wp2_with (fail)
  go_region
  go_wp2_with (fail)
  go_ret
  exact ⟨_, rfl, RowT.one2 w.drew w.heap.size a m rfl (by first | rfl | (simp; done) | (simp; omega)) rfl (Nat.le_refl _), by (repeat (first | assumption | exact Below.refl _ _ | refine Below.drew ?_ | refine bel_drewN ?_ _ | refine Below.setCell ?_ (by first | omega | (simp; done) | (simp; omega)) _ | refine Below.alloc ?_ (by first | omega | (simp; done) | (simp; omega)) _ | refine bel_of ?_ (by assumption)))⟩
set_option maxHeartbeats 2000000 in
theorem tiled_bare (p : Nat → Bool) (m a : Nat) (v : Value) (w : World) (hm : m ≤ 16) (ha : a + 2 ^ (16 - m) ≤ 65536) (hA : Ahead w v p) (h : bare p a (2 ^ (16 - m))) :
    Calls Try.prog 44 #[v, .int .i64 a, .int .i64 m] w fun e w' => ∃ v' : Value, e = .returned v' ∧ RowT w' w.heap.size v' [] ∧ Below w.heap.size w w' := by
  obtain ⟨g, rfl, hc⟩ := hA
  have x0 := hc (a + 2 ^ (16 - m)) ha
  have x1 := hc a (Nat.le_trans (Nat.le_add_right _ _) ha)
  rw [(ah_bare p a _).2 h] at x0
  have hle := ah_le p a
  have hp : 0 < 2 ^ (16 - m) := Nat.pow_pos (by decide)
  have hm' : (m : Int) ≤ 16 := by omega
  obtain ⟨Z, hZ⟩ : ∃ Z : Nat, Z = 2 ^ (16 - m) := ⟨_, rfl⟩
  have hZi : (2 : Int) ^ (16 - m) = (Z : Int) := by rw [hZ]; simp
  rw [← hZ] at ha x0 hp
  generalize ah p a = A at *
  clear hc h hZ
  have b1 : (0 : Int) ≤ (a : Int) + (Z : Int) := by omega
  have b2 : (a : Int) + (Z : Int) < 65537 := by omega
  have b3 : (0 : Int) ≤ (a : Int) := by omega
  have b4 : (a : Int) < 65537 := by omega
  have b5 : (a : Int) < 65536 := by omega
  have e1 : ¬ (0 : Int) = (Z : Int) := by omega
  have e2 : ((0 : Int) == (Z : Int)) = false := by rw [beq_eq_false_iff_ne]; exact e1
  have e3 : (A : Int) - (A : Int) = 0 := by omega
  go_enter Try.func44, Try.ntmps44
  go_wp2_with (fail)
  go_region
  go_wp2_with (fail)
  go_ret
  exact ⟨_, rfl, RowT.nil _ _, by (repeat (first | assumption | exact Below.refl _ _ | refine Below.drew ?_ | refine bel_drewN ?_ _ | refine Below.setCell ?_ (by first | omega | (simp; done) | (simp; omega)) _ | refine Below.alloc ?_ (by first | omega | (simp; done) | (simp; omega)) _ | refine bel_of ?_ (by assumption)))⟩
set_option maxHeartbeats 2000000 in
theorem tiled_mixed (p : Nat → Bool) (m a f : Nat) (v : Value) (w : World) (hm : m + (f + 1) = 16) (ha : a + 2 ^ (16 - m) ≤ 65536) (hA : Ahead w v p) (h1 : ¬ full p a (2 ^ (16 - m))) (h2 : ¬ bare p a (2 ^ (16 - m))) (L R : List (Nat × Nat)) (hL : L.length ≤ 65536) (hR : R.length ≤ 65536)
    (ih1 : ∀ W, Ahead W v p → Calls Try.prog 44 #[v, .int .i64 a, .int .i64 ((m : Int) + 1)] W fun e w' => ∃ v' : Value, e = .returned v' ∧ RowT w' W.heap.size v' L ∧ Below W.heap.size W w')
    (ih2 : ∀ W, Ahead W v p → Calls Try.prog 44 #[v, .int .i64 ((a : Int) + ((2 ^ f : Nat) : Int)), .int .i64 ((m : Int) + 1)] W fun e w' => ∃ v' : Value, e = .returned v' ∧ RowT w' W.heap.size v' R ∧ Below W.heap.size W w') :
    Calls Try.prog 44 #[v, .int .i64 a, .int .i64 m] w fun e w' => ∃ v' : Value, e = .returned v' ∧ RowT w' w.heap.size v' (L ++ R) ∧ Below w.heap.size w w' := by
  have HA : Hid (Ahead w v p) := hA
  obtain ⟨g, rfl, hc⟩ := hA
  have x0 := hc (a + 2 ^ (16 - m)) ha
  have x1 := hc a (Nat.le_trans (Nat.le_add_right _ _) ha)
  have bd := ah_bd p a (2 ^ (16 - m))
  rw [← ah_full] at h1
  rw [← ah_bare] at h2
  have hhalf : 2 ^ (16 - m) = 2 ^ f + 2 ^ f := by rw [show 16 - m = f + 1 by omega, Nat.pow_succ]; omega
  have hle2 := ah_le p (a + 2 ^ (16 - m))
  have hle := ah_le p a
  have hp : 0 < 2 ^ (16 - m) := Nat.pow_pos (by decide)
  have hmf : m ≤ 16 := by omega
  have hm' : (m : Int) ≤ 16 := by omega
  obtain ⟨Z, hZ⟩ : ∃ Z : Nat, Z = 2 ^ (16 - m) := ⟨_, rfl⟩
  have hZi : (2 : Int) ^ (16 - m) = (Z : Int) := by rw [hZ]; simp
  rw [← hZ] at ha x0 hp bd h1 h2 hhalf hle2
  generalize ah p a = A at *
  clear hc hZ
  have b1 : (0 : Int) ≤ (a : Int) + (Z : Int) := by omega
  have b2 : (a : Int) + (Z : Int) < 65537 := by omega
  have b3 : (0 : Int) ≤ (a : Int) := by omega
  have b4 : (a : Int) < 65537 := by omega
  have b5 : (a : Int) < 65536 := by omega
  obtain ⟨B, hB⟩ : ∃ B, B = ah p (a + Z) := ⟨_, rfl⟩
  rw [← hB] at x0 bd h1 h2 hle2
  obtain ⟨Y, hY⟩ : ∃ Y : Nat, Y = 2 ^ f := ⟨_, rfl⟩
  rw [← hY] at hhalf ih2
  have e1 : ¬ (B : Int) - (A : Int) = (Z : Int) := by omega
  have e2 : ¬ (B : Int) - (A : Int) = 0 := by omega
  have e3 : (((B : Int) - (A : Int)) == (Z : Int)) = false := by rw [beq_eq_false_iff_ne]; exact e1
  have e4 : (((B : Int) - (A : Int)) == 0) = false := by rw [beq_eq_false_iff_ne]; exact e2
  have e5 : (Z : Int) / 2 = (Y : Int) := by omega
  have e6 : (Z : Int).tdiv 2 = (Y : Int) := by rw [Int.tdiv_eq_ediv_of_nonneg (by omega)]; omega
  have b6 : (B : Int) ≤ 65536 := by omega
  have b7 : (A : Int) ≤ 65536 := by omega
  have b8 : (Z : Int) ≤ 65536 := by omega
  have b9 : (Y : Int) ≤ 65536 := by omega
  clear hB hY h1 h2 bd hhalf
  go_enter Try.func44, Try.ntmps44
  go_wp2_with (fail)
  go_region
  go_wp2_with (fail)
  refine (ih1 _ (HA.out.on ((Below.refl _ _).drew))).mono ?_
  rintro e w1 ⟨v1, rfl, r1, hb1⟩
  have R1 : Hid (RowT w1 w.heap.size v1 L) := r1
  have HA1 : Hid (Ahead w1 (.slice (some ⟨g, 0, none⟩) 65537 65537) p) := (HA.out.on ((Below.refl _ _).drew)).on hb1
  have B1 : Hid (Below w.heap.size w w1) := (Below.refl _ _).drew.trans (hb1.mono (Nat.le_refl _))
  have z1 := B1.out.size
  clear r1 hb1 ih1 HA x0 x1
  go_wp2_with (fail)
  refine (ih2 _ HA1.out).mono ?_
  rintro e w2 ⟨v2, rfl, r2, hb2⟩
  have R1' : Hid (RowT w2 w.heap.size v1 L) := R1.out.on hb2
  have R2 : Hid (RowT w2 w1.heap.size v2 R) := r2
  have B2 : Hid (Below w.heap.size w w2) := B1.out.trans (hb2.mono z1)
  have z2 := B2.out.size
  clear r2 hb2 ih2 HA1 R1 B1
  go_wp2_with (at_builtin; refine wpList_append_stems rfl (.tmp 48) (.tmp 49) rfl w.heap.size _ L rfl R1'.out w1.heap.size _ R rfl R2.out z2 (by omega) ?_; intro v5 w5 hrow5 hgr5)
  go_ret
  exact ⟨_, rfl, hrow5, B2.out.grown hgr5 z2 (fun j hj => (R1'.out.lt j hj).1)⟩
set_option maxHeartbeats 1000000 in
theorem tiledT (p : Nat → Bool) : ∀ (f m a : Nat) (v : Value) (w : World), m + f = 16 → a + 2 ^ f ≤ 65536 → Ahead w v p →
    Calls Try.prog 44 #[v, .int .i64 a, .int .i64 m] w fun e w' => ∃ v' : Value, e = .returned v' ∧ RowT w' w.heap.size v' (tl p f a) ∧ Below w.heap.size w w' := by
  intro f
  induction f with
  | zero =>
    intro m a v w hm ha hA
    obtain rfl : m = 16 := by omega
    by_cases h1 : full p a (2 ^ (16 - 16))
    · rw [tl_full h1]; exact tiled_full p 16 a v w (Nat.le_refl _) ha hA h1
    · have hb : bare p a (2 ^ (16 - 16)) := fun i i1 i2 => by
        have e : i = a := by simp at i2; omega
        cases hp : p i
        · rfl
        · exact absurd (fun j j1 j2 => by
            have e2 : j = i := by simp at j2; omega
            rw [e2]; exact hp) h1
      rw [tl_bare hb]; exact tiled_bare p 16 a v w (Nat.le_refl _) ha hA hb
  | succ f ih =>
    intro m a v w hm ha hA
    have e : 16 - m = f + 1 := by omega
    have e2 : 2 ^ (f + 1) = 2 ^ f + 2 ^ f := by rw [Nat.pow_succ]; omega
    have h16 : 2 ^ f ≤ 2 ^ 16 := pow_le (by omega)
    have hpos : 0 < 2 ^ f := Nat.pow_pos (by decide)
    by_cases h1 : full p a (2 ^ (f + 1))
    · rw [tl_full h1, show 16 - (f + 1) = m by omega]; exact tiled_full p m a v w (by omega) (by rw [e]; exact ha) hA (by rw [e]; exact h1)
    · by_cases h2 : bare p a (2 ^ (f + 1))
      · rw [tl_bare h2]; exact tiled_bare p m a v w (by omega) (by rw [e]; exact ha) hA (by rw [e]; exact h2)
      · rw [tl_halves h1 h2]
        refine tiled_mixed p m a f v w (by omega) (by rw [e]; exact ha) hA (by rw [e]; exact h1) (by rw [e]; exact h2) _ _ (Nat.le_trans (tl_len p f a) h16) (Nat.le_trans (tl_len p f (a + 2 ^ f)) h16) (fun W h => ?_) (fun W h => ?_)
        · exact ih (m + 1) a v W (by omega) (by omega) h
        · exact ih (m + 1) (a + 2 ^ f) v W (by omega) (by omega) h
end Go.Proofs.Ytapaoemcjpfpoaa
