/-
  Count of package box.
-/
import Derived.Test.YtebljklpkoheaaaGreatBxC
import Derived.Shelf.Bits.Mul64
namespace Go.Proofs.YtebljklpkoheaaaGreat
open Go.RowKit
set_option linter.unusedVariables false
set_option linter.unusedSimpArgs false

set_option maxHeartbeats 1000000 in
theorem mul64 (x y : Nat) (hx : x < 18446744073709551616) (hy : y < 18446744073709551616) (w : World) :
    Calls Tryz.prog 57 #[.int .u64 x, .int .u64 y] w fun e w' => e = .returned (.tuple #[.int .u64 ((x * y / 18446744073709551616 : Nat) : Int), .int .u64 ((x * y % 18446744073709551616 : Nat) : Int)]) ∧ w' = w := by
  obtain ⟨bd, bt, bw, hhi⟩ := Lib.mul64_hi x y hx hy
  have ba := Lib.half_mul_le (a := x / 4294967296) (b := y / 4294967296) (by omega) (by omega)
  have bb := Lib.half_mul_le (a := x / 4294967296) (b := y % 4294967296) (by omega) (by omega)
  have bc := Lib.half_mul_le (a := x % 4294967296) (b := y / 4294967296) (by omega) (by omega)
  have ba' : x / 4294967296 * (y / 4294967296) < 18446744073709551616 := by omega
  have bb' : x / 4294967296 * (y % 4294967296) < 18446744073709551616 := by omega
  have bc' : x % 4294967296 * (y / 4294967296) < 18446744073709551616 := by omega
  have bh1 : x / 4294967296 * (y / 4294967296) + (x / 4294967296 * (y % 4294967296) + x % 4294967296 * (y % 4294967296) / 4294967296) / 4294967296 < 18446744073709551616 := by omega
  have bh : x / 4294967296 * (y / 4294967296) + (x / 4294967296 * (y % 4294967296) + x % 4294967296 * (y % 4294967296) / 4294967296) / 4294967296 + ((x / 4294967296 * (y % 4294967296) + x % 4294967296 * (y % 4294967296) / 4294967296) % 4294967296 + x % 4294967296 * (y / 4294967296)) / 4294967296 < 18446744073709551616 := by omega
  go_enter Tryz.func57, Tryz.ntmps57
  go_wp2
  simp only [Mul64.maskN x hx, Mul64.maskN y hy, Mul64.divN, Mul64.mulN, Mul64.addN, Mul64.wrapN _ bd, Mul64.wrapN _ bb', Mul64.wrapN _ bt, Mul64.maskN _ bt, Mul64.wrapN _ bc', Mul64.wrapN _ bw, Mul64.wrapN _ ba', Mul64.wrapN _ bh1, Mul64.wrapN _ bh, Mul64.wrapM (x * y)]
  rw [hhi]
  go_ret2
  exact ⟨rfl, rfl⟩
/-- How many of one field. -/
def cK (X : Bx) : Nat → Nat
  | 0 => cntI X.a
  | 1 => cntI X.b
  | 2 => cntI X.c
  | 3 => cntI X.d
  | _ => cntM X.m.1 X.m.2
def prK (X : Bx) : Nat → Nat
  | 0 => 1
  | k + 1 => prK X k * cK X k
theorem cK_le {X : Bx} (b : BdX X) : ∀ k, cK X k ≤ 4294967296
  | 0 => by have := b.2.1; show cntI X.a ≤ _; unfold cntI; omega
  | 1 => by have := b.2.2.2.1; show cntI X.b ≤ _; unfold cntI; omega
  | 2 => by have := b.2.2.2.2.2.1; show cntI X.c ≤ _; unfold cntI; omega
  | 3 => by have := b.2.2.2.2.2.2.2.1; show cntI X.d ≤ _; unfold cntI; omega
  | _ + 4 => by have := cntM_le X.m.1 X.m.2 b.2.2.2.2.2.2.2.2.1 b.2.2.2.2.2.2.2.2.2; show cntM X.m.1 X.m.2 ≤ _; omega
theorem prK_le {X : Bx} (b : BdX X) {k : Nat} (hk : k ≤ 5) : prK X k ≤ 20282409603651670423947251286016 := by
  have h1 : cntI X.a ≤ 4294967296 := cK_le b 0
  have h2 : cntI X.b ≤ 4294967296 := cK_le b 1
  have h3 : cntI X.c ≤ 65536 := by have := b.2.2.2.2.2.1; unfold cntI; omega
  have h4 : cntI X.d ≤ 65536 := by have := b.2.2.2.2.2.2.2.1; unfold cntI; omega
  have h5 : cntM X.m.1 X.m.2 ≤ 256 := cntM_le X.m.1 X.m.2 b.2.2.2.2.2.2.2.2.1 b.2.2.2.2.2.2.2.2.2
  have e1 := Nat.mul_le_mul (Nat.le_refl 1) h1
  have e2 := Nat.mul_le_mul e1 h2
  have e3 := Nat.mul_le_mul e2 h3
  have e4 := Nat.mul_le_mul e3 h4
  have e5 := Nat.mul_le_mul e4 h5
  obtain rfl | rfl | rfl | rfl | rfl | rfl : k = 0 ∨ k = 1 ∨ k = 2 ∨ k = 3 ∨ k = 4 ∨ k = 5 := by omega
  · show 1 ≤ _; omega
  · exact Nat.le_trans e1 (by decide)
  · exact Nat.le_trans e2 (by decide)
  · exact Nat.le_trans e3 (by decide)
  · exact Nat.le_trans e4 (by decide)
  · exact Nat.le_trans e5 (by decide)
theorem cntI_no {s : Nat × Nat} (h : okI s = false) : cntI s = 0 := by
  have := of_decide_eq_false h
  unfold cntI; omega
theorem prK_five (X : Bx) : prK X 5 = cntX X := by
  show 1 * cntI X.a * cntI X.b * cntI X.c * cntI X.d * cntM X.m.1 X.m.2 = _
  rw [Nat.one_mul]
  unfold cntX
  cases h : okX X
  · rw [if_neg (by simp)]
    unfold okX at h
    cases h1 : okI X.a
    · rw [cntI_no h1]; simp
    · cases h2 : okI X.b
      · rw [cntI_no h2]; simp
      · cases h3 : okI X.c
        · rw [cntI_no h3]; simp
        · cases h4 : okI X.d
          · rw [cntI_no h4]; simp
          · cases h5 : okM X.m.1 X.m.2
            · rw [show cntM X.m.1 X.m.2 = 0 by unfold cntM; rw [h5]; rfl]; simp
            · rw [h1, h2, h3, h4, h5] at h; cases h
  · rw [if_pos rfl]
/-- Two halves times a number. -/
theorem halves {N n : Nat} (h : N * n < 340282366920938463463374607431768211456) : hiW N * n + loW N * n / 18446744073709551616 = hiW (N * n) ∧ loW N * n % 18446744073709551616 = loW (N * n) := by
  unfold hiW loW
  have e1 := Nat.div_add_mod N 18446744073709551616
  generalize N / 18446744073709551616 = H at *
  generalize N % 18446744073709551616 = L at *
  have e2 : N * n = 18446744073709551616 * (H * n) + L * n := by rw [← e1, Nat.add_mul, Nat.mul_assoc]
  rw [e2]
  generalize H * n = A
  generalize L * n = B
  omega
theorem halves_lt {N n : Nat} (h : N * n < 340282366920938463463374607431768211456) : hiW N * n + loW N * n / 18446744073709551616 < 18446744073709551616 := by
  rw [(halves h).1]
  unfold hiW
  omega
set_option maxRecDepth 20000 in
set_option maxHeartbeats 2000000 in
theorem countXC : CountC := by
  intro X w b
  have HB : Hid (BdX X) := b
  clear b
  go_enter Tryz.func25, Tryz.ntmps25
  go_wp2_with (fail)
  refine (fieldsX _).mono ?_
  rintro e w1 ⟨rfl, hb1⟩
  have hX : Hid (w1.heap[w.heap.size]? = some (.cells #[.int .u32 (X.a.1 : Int), .int .u32 (X.a.2 : Int), .int .u32 (X.b.1 : Int), .int .u32 (X.b.2 : Int), .int .u16 (X.c.1 : Int), .int .u16 (X.c.2 : Int), .int .u16 (X.d.1 : Int), .int .u16 (X.d.2 : Int), .int .u8 (X.m.1 : Int), .int .u8 (X.m.2 : Int)] 41)) := blk_on (blk_new w _) hb1
  have hbl : Hid (Below w.heap.size w w1) := by show Below _ _ _; (repeat (first | assumption | exact Below.refl _ _ | refine Below.drew ?_ | refine bel_drewN ?_ _ | refine Below.setCell ?_ (by first | omega | (simp; done) | (simp; omega)) _ | refine Below.alloc ?_ (by first | omega | (simp; done) | (simp; omega)) _ | refine bel_of ?_ (by assumption)))
  clear hb1
  go_wp2_with (fail)
  go_loopw [2, 3, 10] (fun hv lv iv wr => ∃ (k H L N : Nat), k ≤ 5 ∧ iv = .int .i64 (k : Int) ∧ hv = .int .u64 (H : Int) ∧ lv = .int .u64 (L : Int) ∧ Hid (H = hiW N ∧ L = loW N ∧ N = prK X k) ∧ Hid (Below w1.heap.size w1 wr)) (fun _ _ iv _ => 5 - (intOf iv).toNat)
  case atStart => exact ⟨0, 0, 1, 1, Nat.zero_le _, rfl, rfl, rfl, ⟨rfl, rfl, rfl⟩, Below.refl _ _⟩
  case round =>
    obtain ⟨k, H, L, N, hk, rfl, rfl, rfl, hN, hbr⟩ := hrel
    obtain ⟨c0, c1, c2, c3, c4, c5, c6, c7, c8, c9⟩ := blk10 (blk_on hX.out hbr.out)
    have hlt := blk_lt (blk_on hX.out hbr.out)
    have n0 : ¬ w.heap.size = wr.heap.size := by omega
    have hLl : L < 18446744073709551616 := by rw [hN.out.2.1]; exact Nat.mod_lt _ (by decide)
    obtain rfl | rfl | rfl | rfl | rfl | rfl : k = 0 ∨ k = 1 ∨ k = 2 ∨ k = 3 ∨ k = 4 ∨ k = 5 := by omega
    · have hix := idx_src
      have hM := fun W => src2 X W HB.out
      obtain ⟨n, hn⟩ : ∃ n, n = cntI X.a := ⟨_, rfl⟩
      rw [← hn] at hM
      have hnl : n ≤ 4294967296 := by rw [hn]; exact cK_le HB.out 0
      have hNn : N * n < 340282366920938463463374607431768211456 := by
        have : N * n = prK X 1 := by rw [hN.out.2.2, hn]; rfl
        rw [this]
        exact Nat.lt_of_le_of_lt (prK_le HB.out (by decide)) (by decide)
      have hh := halves hNn
      have hhl := halves_lt hNn
      rw [← hN.out.1, ← hN.out.2.1] at hh hhl
      have HH : Hid ((H * n + L * n / 18446744073709551616) = hiW (N * n) ∧ L * n % 18446744073709551616 = loW (N * n) ∧ N * n = prK X 1) := ⟨hh.1, hh.2, by rw [hN.out.2.2, hn]; rfl⟩
      have hMu := fun W => mul64 L n hLl (by omega) W
      obtain ⟨Q, hQ⟩ : ∃ Q : Nat, Q = L * n / 18446744073709551616 := ⟨_, rfl⟩
      obtain ⟨R, hR⟩ : ∃ R : Nat, R = L * n % 18446744073709551616 := ⟨_, rfl⟩
      rw [← hQ] at HH hhl hMu
      rw [← hR] at HH hMu
      have hA : Hid (H * n + Q < 18446744073709551616) := hhl
      clear hn hNn hh hhl hQ hR hLl hN
      go_wp2_with (fail)
      refine (hM _).mono ?_
      rintro e w2 ⟨rfl, hb2⟩
      have hbw : Hid (Below w1.heap.size w1 w2) := (hbr.out.alloc hbr.out.size _).trans (hb2.mono (by have := hbr.out.size; simp; omega))
      clear hb2 c0 c1 c2 c3 c4 c5 c6 c7 c8 c9 hM hix hlt n0
      go_wp2_with (fail)
      refine (hMu _).mono ?_
      rintro e w3 ⟨rfl, hw3⟩
      obtain rfl := hw3.symm
      clear hw3 hMu
      have hm1 : IntKind.u64.wrap ((H : Int) * (n : Int)) = ((H * n : Nat) : Int) := by
        rw [Mul64.mulN]; exact Mul64.wrapN _ (by have := hA.out; omega)
      have hm2 : IntKind.u64.wrap (((H * n : Nat) : Int) + (Q : Int)) = ((H * n + Q : Nat) : Int) := by
        rw [Mul64.addN]; exact Mul64.wrapN _ hA.out
      go_wp2_with (fail)
      go_roundw
      case rel =>
        refine ⟨1, H * n + Q, R, N * n, by omega, rfl, congrArg (Value.int .u64) ?_, rfl, ⟨HH.out.1, HH.out.2.1, HH.out.2.2⟩, hbw.out⟩
        have := hA.out
        rw [Mul64.mulN, hm2]
      case measure => simp [intOf]
    · have hix := idx_dst
      have hM := fun W => dst2 X W HB.out
      obtain ⟨n, hn⟩ : ∃ n, n = cntI X.b := ⟨_, rfl⟩
      rw [← hn] at hM
      have hnl : n ≤ 4294967296 := by rw [hn]; exact cK_le HB.out 1
      have hNn : N * n < 340282366920938463463374607431768211456 := by
        have : N * n = prK X 2 := by rw [hN.out.2.2, hn]; rfl
        rw [this]
        exact Nat.lt_of_le_of_lt (prK_le HB.out (by decide)) (by decide)
      have hh := halves hNn
      have hhl := halves_lt hNn
      rw [← hN.out.1, ← hN.out.2.1] at hh hhl
      have HH : Hid ((H * n + L * n / 18446744073709551616) = hiW (N * n) ∧ L * n % 18446744073709551616 = loW (N * n) ∧ N * n = prK X 2) := ⟨hh.1, hh.2, by rw [hN.out.2.2, hn]; rfl⟩
      have hMu := fun W => mul64 L n hLl (by omega) W
      obtain ⟨Q, hQ⟩ : ∃ Q : Nat, Q = L * n / 18446744073709551616 := ⟨_, rfl⟩
      obtain ⟨R, hR⟩ : ∃ R : Nat, R = L * n % 18446744073709551616 := ⟨_, rfl⟩
      rw [← hQ] at HH hhl hMu
      rw [← hR] at HH hMu
      have hA : Hid (H * n + Q < 18446744073709551616) := hhl
      clear hn hNn hh hhl hQ hR hLl hN
      go_wp2_with (fail)
      refine (hM _).mono ?_
      rintro e w2 ⟨rfl, hb2⟩
      have hbw : Hid (Below w1.heap.size w1 w2) := (hbr.out.alloc hbr.out.size _).trans (hb2.mono (by have := hbr.out.size; simp; omega))
      clear hb2 c0 c1 c2 c3 c4 c5 c6 c7 c8 c9 hM hix hlt n0
      go_wp2_with (fail)
      refine (hMu _).mono ?_
      rintro e w3 ⟨rfl, hw3⟩
      obtain rfl := hw3.symm
      clear hw3 hMu
      have hm1 : IntKind.u64.wrap ((H : Int) * (n : Int)) = ((H * n : Nat) : Int) := by
        rw [Mul64.mulN]; exact Mul64.wrapN _ (by have := hA.out; omega)
      have hm2 : IntKind.u64.wrap (((H * n : Nat) : Int) + (Q : Int)) = ((H * n + Q : Nat) : Int) := by
        rw [Mul64.addN]; exact Mul64.wrapN _ hA.out
      go_wp2_with (fail)
      go_roundw
      case rel =>
        refine ⟨2, H * n + Q, R, N * n, by omega, rfl, congrArg (Value.int .u64) ?_, rfl, ⟨HH.out.1, HH.out.2.1, HH.out.2.2⟩, hbw.out⟩
        have := hA.out
        rw [Mul64.mulN, hm2]
      case measure => simp [intOf]
    · have hix := idx_sport
      have hM := fun W => sport2 X W HB.out
      obtain ⟨n, hn⟩ : ∃ n, n = cntI X.c := ⟨_, rfl⟩
      rw [← hn] at hM
      have hnl : n ≤ 4294967296 := by rw [hn]; exact cK_le HB.out 2
      have hNn : N * n < 340282366920938463463374607431768211456 := by
        have : N * n = prK X 3 := by rw [hN.out.2.2, hn]; rfl
        rw [this]
        exact Nat.lt_of_le_of_lt (prK_le HB.out (by decide)) (by decide)
      have hh := halves hNn
      have hhl := halves_lt hNn
      rw [← hN.out.1, ← hN.out.2.1] at hh hhl
      have HH : Hid ((H * n + L * n / 18446744073709551616) = hiW (N * n) ∧ L * n % 18446744073709551616 = loW (N * n) ∧ N * n = prK X 3) := ⟨hh.1, hh.2, by rw [hN.out.2.2, hn]; rfl⟩
      have hMu := fun W => mul64 L n hLl (by omega) W
      obtain ⟨Q, hQ⟩ : ∃ Q : Nat, Q = L * n / 18446744073709551616 := ⟨_, rfl⟩
      obtain ⟨R, hR⟩ : ∃ R : Nat, R = L * n % 18446744073709551616 := ⟨_, rfl⟩
      rw [← hQ] at HH hhl hMu
      rw [← hR] at HH hMu
      have hA : Hid (H * n + Q < 18446744073709551616) := hhl
      clear hn hNn hh hhl hQ hR hLl hN
      go_wp2_with (fail)
      refine (hM _).mono ?_
      rintro e w2 ⟨rfl, hb2⟩
      have hbw : Hid (Below w1.heap.size w1 w2) := (hbr.out.alloc hbr.out.size _).trans (hb2.mono (by have := hbr.out.size; simp; omega))
      clear hb2 c0 c1 c2 c3 c4 c5 c6 c7 c8 c9 hM hix hlt n0
      go_wp2_with (fail)
      refine (hMu _).mono ?_
      rintro e w3 ⟨rfl, hw3⟩
      obtain rfl := hw3.symm
      clear hw3 hMu
      have hm1 : IntKind.u64.wrap ((H : Int) * (n : Int)) = ((H * n : Nat) : Int) := by
        rw [Mul64.mulN]; exact Mul64.wrapN _ (by have := hA.out; omega)
      have hm2 : IntKind.u64.wrap (((H * n : Nat) : Int) + (Q : Int)) = ((H * n + Q : Nat) : Int) := by
        rw [Mul64.addN]; exact Mul64.wrapN _ hA.out
      go_wp2_with (fail)
      go_roundw
      case rel =>
        refine ⟨3, H * n + Q, R, N * n, by omega, rfl, congrArg (Value.int .u64) ?_, rfl, ⟨HH.out.1, HH.out.2.1, HH.out.2.2⟩, hbw.out⟩
        have := hA.out
        rw [Mul64.mulN, hm2]
      case measure => simp [intOf]
    · have hix := idx_dport
      have hM := fun W => dport2 X W HB.out
      obtain ⟨n, hn⟩ : ∃ n, n = cntI X.d := ⟨_, rfl⟩
      rw [← hn] at hM
      have hnl : n ≤ 4294967296 := by rw [hn]; exact cK_le HB.out 3
      have hNn : N * n < 340282366920938463463374607431768211456 := by
        have : N * n = prK X 4 := by rw [hN.out.2.2, hn]; rfl
        rw [this]
        exact Nat.lt_of_le_of_lt (prK_le HB.out (by decide)) (by decide)
      have hh := halves hNn
      have hhl := halves_lt hNn
      rw [← hN.out.1, ← hN.out.2.1] at hh hhl
      have HH : Hid ((H * n + L * n / 18446744073709551616) = hiW (N * n) ∧ L * n % 18446744073709551616 = loW (N * n) ∧ N * n = prK X 4) := ⟨hh.1, hh.2, by rw [hN.out.2.2, hn]; rfl⟩
      have hMu := fun W => mul64 L n hLl (by omega) W
      obtain ⟨Q, hQ⟩ : ∃ Q : Nat, Q = L * n / 18446744073709551616 := ⟨_, rfl⟩
      obtain ⟨R, hR⟩ : ∃ R : Nat, R = L * n % 18446744073709551616 := ⟨_, rfl⟩
      rw [← hQ] at HH hhl hMu
      rw [← hR] at HH hMu
      have hA : Hid (H * n + Q < 18446744073709551616) := hhl
      clear hn hNn hh hhl hQ hR hLl hN
      go_wp2_with (fail)
      refine (hM _).mono ?_
      rintro e w2 ⟨rfl, hb2⟩
      have hbw : Hid (Below w1.heap.size w1 w2) := (hbr.out.alloc hbr.out.size _).trans (hb2.mono (by have := hbr.out.size; simp; omega))
      clear hb2 c0 c1 c2 c3 c4 c5 c6 c7 c8 c9 hM hix hlt n0
      go_wp2_with (fail)
      refine (hMu _).mono ?_
      rintro e w3 ⟨rfl, hw3⟩
      obtain rfl := hw3.symm
      clear hw3 hMu
      have hm1 : IntKind.u64.wrap ((H : Int) * (n : Int)) = ((H * n : Nat) : Int) := by
        rw [Mul64.mulN]; exact Mul64.wrapN _ (by have := hA.out; omega)
      have hm2 : IntKind.u64.wrap (((H * n : Nat) : Int) + (Q : Int)) = ((H * n + Q : Nat) : Int) := by
        rw [Mul64.addN]; exact Mul64.wrapN _ hA.out
      go_wp2_with (fail)
      go_roundw
      case rel =>
        refine ⟨4, H * n + Q, R, N * n, by omega, rfl, congrArg (Value.int .u64) ?_, rfl, ⟨HH.out.1, HH.out.2.1, HH.out.2.2⟩, hbw.out⟩
        have := hA.out
        rw [Mul64.mulN, hm2]
      case measure => simp [intOf]
    · have hix := idx_proto
      have hM := fun W => proto2 X W HB.out
      obtain ⟨n, hn⟩ : ∃ n, n = cntM X.m.1 X.m.2 := ⟨_, rfl⟩
      rw [← hn] at hM
      have hnl : n ≤ 4294967296 := by rw [hn]; exact cK_le HB.out 4
      have hNn : N * n < 340282366920938463463374607431768211456 := by
        have : N * n = prK X 5 := by rw [hN.out.2.2, hn]; rfl
        rw [this]
        exact Nat.lt_of_le_of_lt (prK_le HB.out (by decide)) (by decide)
      have hh := halves hNn
      have hhl := halves_lt hNn
      rw [← hN.out.1, ← hN.out.2.1] at hh hhl
      have HH : Hid ((H * n + L * n / 18446744073709551616) = hiW (N * n) ∧ L * n % 18446744073709551616 = loW (N * n) ∧ N * n = prK X 5) := ⟨hh.1, hh.2, by rw [hN.out.2.2, hn]; rfl⟩
      have hMu := fun W => mul64 L n hLl (by omega) W
      obtain ⟨Q, hQ⟩ : ∃ Q : Nat, Q = L * n / 18446744073709551616 := ⟨_, rfl⟩
      obtain ⟨R, hR⟩ : ∃ R : Nat, R = L * n % 18446744073709551616 := ⟨_, rfl⟩
      rw [← hQ] at HH hhl hMu
      rw [← hR] at HH hMu
      have hA : Hid (H * n + Q < 18446744073709551616) := hhl
      clear hn hNn hh hhl hQ hR hLl hN
      go_wp2_with (fail)
      refine (hM _).mono ?_
      rintro e w2 ⟨rfl, hb2⟩
      have hbw : Hid (Below w1.heap.size w1 w2) := (hbr.out.alloc hbr.out.size _).trans (hb2.mono (by have := hbr.out.size; simp; omega))
      clear hb2 c0 c1 c2 c3 c4 c5 c6 c7 c8 c9 hM hix hlt n0
      go_wp2_with (fail)
      refine (hMu _).mono ?_
      rintro e w3 ⟨rfl, hw3⟩
      obtain rfl := hw3.symm
      clear hw3 hMu
      have hm1 : IntKind.u64.wrap ((H : Int) * (n : Int)) = ((H * n : Nat) : Int) := by
        rw [Mul64.mulN]; exact Mul64.wrapN _ (by have := hA.out; omega)
      have hm2 : IntKind.u64.wrap (((H * n : Nat) : Int) + (Q : Int)) = ((H * n + Q : Nat) : Int) := by
        rw [Mul64.addN]; exact Mul64.wrapN _ hA.out
      go_wp2_with (fail)
      go_roundw
      case rel =>
        refine ⟨5, H * n + Q, R, N * n, by omega, rfl, congrArg (Value.int .u64) ?_, rfl, ⟨HH.out.1, HH.out.2.1, HH.out.2.2⟩, hbw.out⟩
        have := hA.out
        rw [Mul64.mulN, hm2]
      case measure => simp [intOf]
    · have HH : Hid (H = hiW (cntX X) ∧ L = loW (cntX X)) := by rw [← prK_five, ← hN.out.2.2]; exact ⟨hN.out.1, hN.out.2.1⟩
      clear hN
      go_wp2_with (fail)
      go_ret2
      refine ⟨?_, hbl.out.trans (hbr.out.mono hbl.out.size)⟩
      show Ending.returned (.tuple #[.int .u64 (H : Int), .int .u64 (L : Int)]) = _
      rw [HH.out.1, HH.out.2]
end Go.Proofs.YtebljklpkoheaaaGreat
