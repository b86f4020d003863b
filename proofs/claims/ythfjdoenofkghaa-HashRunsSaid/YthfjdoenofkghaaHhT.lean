/-
  A table of slots in memory; how a header is scattered.
-/
import Derived.Test.YthfjdoenofkghaaHhU
import Derived.Test.YthfjdoenofkghaaHdU
import Derived.Laws.BitsAllLaws
import Derived.ScopeJumps
import Derived.WalkMore
namespace Go.Proofs.Ythfjdoenofkghaa
open Go.RowKit
set_option linter.unusedVariables false
set_option linter.unusedSimpArgs false

/-- The table in block t: how many entries there may be, are, how many slots are not free, the slots in the row v. -/
def Tab (w : World) (t : Nat) (v : Value) (M c sp : Nat) (l : List SlI) : Prop :=
  w.heap[t]? = some (.cells #[.int .i64 (M : Int), .int .i64 (c : Int), .int .i64 (sp : Int), v] 62 (0, 0)) ∧ RowL w 0 v l ∧ v.ownBlock ≠ some t
section
variable {w w1 : World} {t : Nat} {v : Value} {M c sp : Nat} {l : List SlI}
theorem Tab.on (h : Tab w t v M c sp l) (hb : Below w.heap.size w w1) : Tab w1 t v M c sp l := ⟨blk_on h.1 hb, h.2.1.on hb, h.2.2⟩
theorem Tab.lt (h : Tab w t v M c sp l) : t < w.heap.size := blk_lt h.1
theorem Tab.own (h : Tab w t v M c sp l) {k : Nat} (e : v.ownBlock = some k) : k < w.heap.size := (h.2.1.lt k e).2
theorem Tab.drew (h : Tab w t v M c sp l) : Tab w.drew t v M c sp l := h
end
theorem blk4 {w : World} {B : Nat} {v0 v1 v2 v3 : Value} {t : TypeId} {fr : Nat × Nat} (h : w.heap[B]? = some (.cells #[v0, v1, v2, v3] t fr)) : w.cell? ⟨B, 0, none⟩ = some v0 ∧ w.cell? ⟨B, 1, none⟩ = some v1 ∧ w.cell? ⟨B, 2, none⟩ = some v2 ∧ w.cell? ⟨B, 3, none⟩ = some v3 := ⟨blk_cell h rfl, blk_cell h rfl, blk_cell h rfl, blk_cell h rfl⟩
theorem blk3 {w : World} {B : Nat} {v0 v1 v2 : Value} {t : TypeId} {fr : Nat × Nat} (h : w.heap[B]? = some (.cells #[v0, v1, v2] t fr)) : w.cell? ⟨B, 0, none⟩ = some v0 ∧ w.cell? ⟨B, 1, none⟩ = some v1 ∧ w.cell? ⟨B, 2, none⟩ = some v2 := ⟨blk_cell h rfl, blk_cell h rfl, blk_cell h rfl⟩
/-- What a call that writes the table leaves as it was; v: its row ahead, v': behind. -/
structure Moved (w w' : World) (t : Nat) (v v' : Value) : Prop where
  os : w'.os = w.os
  tape : w'.tape = w.tape
  output : w'.output = w.output
  size : w.heap.size ≤ w'.heap.size
  block : ∀ k, k < w.heap.size → k ≠ t → v.ownBlock ≠ some k → w'.heap[k]? = w.heap[k]?
  own : ∀ k, v'.ownBlock = some k → v.ownBlock = some k ∨ w.heap.size ≤ k
theorem Moved.of_below {w w' : World} {t : Nat} {v : Value} (h : Below w.heap.size w w') : Moved w w' t v v :=
  ⟨h.os, h.tape, h.output, h.size, fun k hk _ _ => h.block k hk, fun k e => .inl e⟩
theorem Moved.below {w w' : World} {t B : Nat} {v v' : Value} (h : Moved w w' t v v') (hB : B ≤ w.heap.size) (ht : B ≤ t) (hv : ∀ k, v.ownBlock = some k → B ≤ k) : Below B w w' :=
  ⟨h.os, h.tape, h.output, h.size, fun k hk => h.block k (by omega) (by omega) (fun e => by have := hv k e; omega)⟩
theorem Moved.ge {w w' : World} {t B : Nat} {v v' : Value} (h : Moved w w' t v v') (hB : B ≤ w.heap.size) (hv : ∀ k, v.ownBlock = some k → B ≤ k) : ∀ k, v'.ownBlock = some k → B ≤ k := fun k e => by
  rcases h.own k e with h1 | h1
  · exact hv k h1
  · omega
theorem Moved.trans {w w1 w2 : World} {t : Nat} {v v1 v2 : Value} (h : Moved w w1 t v v1) (g : Moved w1 w2 t v1 v2) : Moved w w2 t v v2 :=
  ⟨g.os.trans h.os, g.tape.trans h.tape, g.output.trans h.output, Nat.le_trans h.size g.size, fun k hk ht hv => by
    rw [g.block k (Nat.lt_of_lt_of_le hk h.size) ht (fun e => by rcases h.own k e with h1 | h1
                                                                 · exact hv h1
                                                                 · omega), h.block k hk ht hv], fun k e => by
    rcases g.own k e with h1 | h1
    · exact h.own k h1
    · exact .inr (Nat.le_trans h.size h1)⟩
theorem Moved.undrew {w w' : World} {t : Nat} {v v' : Value} (m : Moved w.drew w' t v v') : Moved w w' t v v' := ⟨m.os, m.tape, m.output, m.size, m.block, m.own⟩
/-- A block that is neither the table's nor its row's. -/
def Kb (w : World) (t : Nat) (v : Value) (B : Nat) (o : Obj) : Prop := w.heap[B]? = some o ∧ B ≠ t ∧ v.ownBlock ≠ some B
theorem Kb.lt {w : World} {t : Nat} {v : Value} {B : Nat} {o : Obj} (h : Kb w t v B o) : B < w.heap.size := blk_lt h.1
theorem Kb.moved {w w' : World} {t : Nat} {v v' : Value} {B : Nat} {o : Obj} (h : Kb w t v B o) (m : Moved w w' t v v') : Kb w' t v' B o := by
  refine ⟨by rw [m.block B h.lt h.2.1 h.2.2]; exact h.1, h.2.1, fun e => ?_⟩
  rcases m.own B e with h1 | h1
  · exact h.2.2 h1
  · have := h.lt; omega
theorem Kb.on {w w1 : World} {t : Nat} {v : Value} {B : Nat} {o : Obj} (h : Kb w t v B o) (hb : Below w.heap.size w w1) : Kb w1 t v B o := ⟨blk_on h.1 hb, h.2.1, h.2.2⟩

/-- The word's last part of MurmurHash3. -/
def mixN (x : Nat) : Nat :=
  let a := x ^^^ (x / 8589934592)
  let b := a * 18397679294719823053 % 18446744073709551616
  let c := b ^^^ (b / 8589934592)
  let d := c * 14181476777654086739 % 18446744073709551616
  d ^^^ (d / 8589934592)
theorem xor_lt64 {a b : Nat} (ha : a < 18446744073709551616) (hb : b < 18446744073709551616) : a ^^^ b < 18446744073709551616 := Nat.xor_lt_two_pow (n := 64) ha hb
theorem mixN_lt (x : Nat) : mixN x < 18446744073709551616 := by
  unfold mixN
  exact xor_lt64 (Nat.mod_lt _ (by decide)) (by have := Nat.mod_lt ((x ^^^ x / 8589934592) * 18397679294719823053 % 18446744073709551616 ^^^ (x ^^^ x / 8589934592) * 18397679294719823053 % 18446744073709551616 / 8589934592) (show 0 < 18446744073709551616 by decide); omega)
theorem mix_a (y : Nat) (hy : y < 18446744073709551616) : bits .xor .u64 (y : Int) ((y : Int) / 8589934592) = ((y ^^^ (y / 8589934592) : Nat) : Int) := by
  have := u64_xor_nat y (y / 8589934592) hy (by omega)
  rw [← this]; congr 1
theorem mix_b (y c : Nat) : IntKind.u64.wrap ((y : Int) * (c : Int)) = ((y * c % 18446744073709551616 : Nat) : Int) := by
  rw [IntKind.wrap_u64, ← Int.natCast_mul]; rfl
theorem mixC (z : Int) (x : Nat) (w : World) (hz : z = (x : Int)) (hx : x < 18446744073709551616) :
    Calls Try.prog 36 #[.int .u64 z] w fun e w' => e = .returned (.int .u64 (mixN x : Int)) ∧ w' = w := by
  subst hz
  go_enter Try.func36, Try.ntmps36
  go_wp2
  go_ret
  refine ⟨ret_int ?_, rfl⟩
  have hb := fun y => mix_b y 18397679294719823053
  have hd := fun y => mix_b y 14181476777654086739
  have h0 : ∀ y : Nat, y % 18446744073709551616 < 18446744073709551616 := fun y => Nat.mod_lt _ (by decide)
  simp only [show ((18397679294719823053 : Nat) : Int) = 18397679294719823053 from rfl, show ((14181476777654086739 : Nat) : Int) = 14181476777654086739 from rfl] at hb hd
  rw [mix_a x hx, hb, mix_a _ (h0 _), hd, mix_a _ (h0 _)]
  rfl
def scH (k : Hd) : Nat := mixN (mixN ((k.s * 4294967296) ||| k.d) ^^^ (((k.p * 16777216) ||| (k.q * 256)) ||| k.r))
theorem or_lt64 {a b : Nat} (ha : a < 18446744073709551616) (hb : b < 18446744073709551616) : a ||| b < 18446744073709551616 := Nat.or_lt_two_pow (n := 64) ha hb
/-- The first slot of so many. -/
def scF (k : Hd) (n : Nat) : Nat := scH k &&& (n - 1)
/-- The step. -/
def scS (k : Hd) (n : Nat) : Nat := ((scH k / 4294967296) &&& (n - 1)) ||| 1
/-- The way of a header. -/
def way (k : Hd) (n i : Nat) : Nat := (scF k n + i * scS k n) % n
theorem scS_odd (k : Hd) (n : Nat) : scS k n % 2 = 1 := by
  unfold scS
  have h := Nat.testBit_or ((scH k / 4294967296) &&& (n - 1)) 1 0
  rw [show (1 : Nat).testBit 0 = true from rfl, Bool.or_true, Nat.testBit_zero, decide_eq_true_eq] at h
  exact h
theorem way_scat : Scat way where
  lt := fun k m i => Nat.mod_lt _ (Nat.two_pow_pos m)
  onto := fun k m j hj => way_onto (scS_odd k _) j hj
theorem scF_lt (k : Hd) {n : Nat} (h : 1 ≤ n) : scF k n < n := by
  have := Nat.and_le_right (n := scH k) (m := n - 1)
  unfold scF; omega
theorem scS_le (k : Hd) {n : Nat} (h : 1 ≤ n) : scS k n ≤ n := by
  unfold scS
  have h1 := Nat.and_le_right (n := scH k / 4294967296) (m := n - 1)
  have h2 : ∀ a : Nat, a ||| 1 ≤ a + 1 := fun a => by
    have h3 := Nat.or_mod_two_pow (a := a) (b := 1) (n := 1)
    have h4 := Nat.or_div_two_pow (a := a) (b := 1) (n := 1)
    simp at h3 h4
    omega
  have := h2 ((scH k / 4294967296) &&& (n - 1))
  omega
set_option maxHeartbeats 1000000 in
theorem scatC (k : Hd) (n : Nat) (w : World) (o : OkH k) (hn : 1 ≤ n) (hn2 : n ≤ 4294967296) :
    Calls Try.prog 30 #[.agg #[.int .u32 (k.s : Int), .int .u32 (k.d : Int), .int .u16 (k.p : Int), .int .u16 (k.q : Int), .int .u8 (k.r : Int)], .int .i64 (n : Int)] w fun e w' => e = .returned (.tuple #[.int .i64 (scF k n : Int), .int .i64 (scS k n : Int)]) ∧ Below w.heap.size w w' := by
  obtain ⟨o1, o2, o3, o4, o5⟩ := o
  have e1 : bits .or .u64 ((k.s : Int) * 4294967296) (k.d : Int) = (((k.s * 4294967296) ||| k.d : Nat) : Int) := by
    rw [← u64_or_nat _ _ (by omega) (by omega)]; rfl
  have e2 : bits .or .u64 (bits .or .u64 ((k.p : Int) * 16777216) ((k.q : Int) * 256)) (k.r : Int) = ((((k.p * 16777216) ||| (k.q * 256)) ||| k.r : Nat) : Int) := by
    rw [← u64_or_nat _ _ (or_lt64 (by omega) (by omega)) (by omega), ← u64_or_nat _ _ (by omega) (by omega)]; rfl
  have hm1 := fun z w hz => mixC z ((k.s * 4294967296) ||| k.d) w hz (or_lt64 (by omega) (by omega))
  have hm2 := fun z w hz => mixC z (mixN ((k.s * 4294967296) ||| k.d) ^^^ (((k.p * 16777216) ||| (k.q * 256)) ||| k.r)) w hz (xor_lt64 (mixN_lt _) (or_lt64 (or_lt64 (by omega) (by omega)) (by omega)))
  have E1 : Hid (bits .or .u64 ((k.s : Int) * 4294967296) (k.d : Int) = (((k.s * 4294967296) ||| k.d : Nat) : Int)) := e1
  have E2 : Hid (bits .or .u64 (bits .or .u64 ((k.p : Int) * 16777216) ((k.q : Int) * 256)) (k.r : Int) = ((((k.p * 16777216) ||| (k.q * 256)) ||| k.r : Nat) : Int)) := e2
  have l2 : (((k.p * 16777216) ||| (k.q * 256)) ||| k.r) < 18446744073709551616 := or_lt64 (or_lt64 (by omega) (by omega)) (by omega)
  have l1 := mixN_lt ((k.s * 4294967296) ||| k.d)
  have HX : Hid (bits .xor .u64 (mixN ((k.s * 4294967296) ||| k.d) : Int) (((((k.p * 16777216) ||| (k.q * 256)) ||| k.r : Nat)) : Int) = ((mixN ((k.s * 4294967296) ||| k.d) ^^^ (((k.p * 16777216) ||| (k.q * 256)) ||| k.r) : Nat) : Int)) := u64_xor_nat _ _ l1 l2
  have hH : scH k < 18446744073709551616 := mixN_lt _
  have HF : Hid (bits .and .u64 (scH k : Int) ((n : Int) - 1) = (scF k n : Int)) := by
    show _ = _
    rw [show (n : Int) - 1 = ((n - 1 : Nat) : Int) by omega, u64_and_nat _ _ hH (by omega)]; rfl
  have HS : Hid (bits .or .u64 (bits .and .u64 ((scH k : Int) / 4294967296) ((n : Int) - 1)) 1 = (scS k n : Int)) := by
    show _ = _
    rw [show (n : Int) - 1 = ((n - 1 : Nat) : Int) by omega, show (scH k : Int) / 4294967296 = ((scH k / 4294967296 : Nat) : Int) by omega, u64_and_nat _ _ (by omega) (by omega)]
    exact u64_or_nat _ 1 (by have := Nat.and_le_right (n := scH k / 4294967296) (m := n - 1); omega) (by decide)
  have hF := scF_lt k hn
  have hS := scS_le k hn
  have hn0 : (1 : Int) ≤ n := by omega
  have hn3 : (n : Int) ≤ 4294967296 := by omega
  clear e1 e2
  go_enter Try.func30, Try.ntmps30
  go_wp2_with (fail)
  refine (hm1 _ _ (by rw [E1.out])).mono ?_
  rintro e w1 ⟨rfl, hw⟩
  obtain rfl := hw
  go_wp2_with (fail)
  refine (hm2 _ _ (by rw [E2.out, HX.out])).mono ?_
  rintro e w1 ⟨rfl, hw⟩
  obtain rfl := hw
  have hU : mixN (mixN (k.s * 4294967296 ||| k.d) ^^^ (k.p * 16777216 ||| k.q * 256 ||| k.r)) = scH k := rfl
  rw [hU]
  clear hm1 hm2 HX E1 E2 hU
  go_wp2
  go_ret2
  refine ⟨?_, by (repeat (first | assumption | exact Below.refl _ _ | refine Below.drew ?_ | refine bel_drewN ?_ _ | refine Below.setCell ?_ (by first | omega | (simp; done) | (simp; omega)) _ | refine Below.alloc ?_ (by first | omega | (simp; done) | (simp; omega)) _ | refine bel_of ?_ (by assumption)))⟩
  show Ending.returned (.tuple #[.int .i64 (wrap64 (bits .and .u64 (scH k : Int) ((n : Int) - 1))), .int .i64 (wrap64 (bits .or .u64 (bits .and .u64 ((scH k : Int) / 4294967296) ((n : Int) - 1)) 1))]) = _
  rw [HF.out, HS.out, show wrap64 (scF k n : Int) = (scF k n : Int) by unfold wrap64; omega, show wrap64 (scS k n : Int) = (scS k n : Int) by unfold wrap64; omega]
/-- How many slots so many entries are laid into. -/
def slF : Nat → Nat → Nat → Nat
  | 0, s, _ => s
  | f + 1, s, n => if s < 2 * n then slF f (2 * s) n else s
def sltN (n : Nat) : Nat := slF 30 8 n
theorem slF_is : ∀ (f s n m : Nat), s = 2 ^ m → 3 ≤ m → (s = 8 ∨ s < 4 * n) → 2 * n ≤ s * 2 ^ f → ∃ m', slF f s n = 2 ^ m' ∧ 3 ≤ m' ∧ 2 * n ≤ slF f s n ∧ (slF f s n = 8 ∨ slF f s n < 4 * n)
  | 0, s, n, m, hs, hm, hb, hf => ⟨m, hs, hm, by simpa [slF] using hf, hb⟩
  | f + 1, s, n, m, hs, hm, hb, hf => by
    unfold slF
    split
    · exact slF_is f (2 * s) n (m + 1) (by rw [hs, Nat.pow_succ]; omega) (by omega) (by omega) (by rw [Nat.pow_succ, ← Nat.mul_assoc] at hf; rw [Nat.mul_assoc]; omega)
    · exact ⟨m, hs, hm, by omega, hb⟩
theorem sltN_is {n : Nat} (h : n ≤ 65537) : ∃ m, sltN n = 2 ^ m ∧ 3 ≤ m ∧ 2 * n ≤ sltN n ∧ (sltN n = 8 ∨ sltN n < 4 * n) :=
  slF_is 30 8 n 3 rfl (by omega) (.inl rfl) (by omega)
set_option maxHeartbeats 1000000 in
theorem sltC (n : Nat) (w : World) (hn : n ≤ 65537) :
    Calls Try.prog 31 #[.int .i64 (n : Int)] w fun e w' => e = .returned (.int .i64 (sltN n : Int)) ∧ w' = w := by
  obtain ⟨S, hS⟩ : ∃ S, S = sltN n := ⟨_, rfl⟩
  have HS : Hid (slF 30 8 n = S) := hS.symm
  rw [← hS]
  clear hS
  have hn1 : (n : Int) ≤ 65537 := by omega
  go_enter Try.func31, Try.ntmps31
  go_wp2
  go_loopw [3] (fun v3 wr => ∃ s f : Nat, v3 = .int .i64 (s : Int) ∧ 1 ≤ s ∧ s ≤ 524288 ∧ Hid (slF f s n = S) ∧ Hid (2 * n ≤ s * 2 ^ f) ∧ wr = w) (fun v3 _ => 2 * n - (intOf v3).toNat)
  case atStart => exact ⟨8, 30, rfl, by omega, by omega, HS.out, (by show 2 * n ≤ 8 * 2 ^ 30; omega), rfl⟩
  case round =>
    obtain ⟨s, f, rfl, h1, h2, HF, HG, rfl⟩ := hrel
    have hw2 : wrap64 (2 * (n : Int)) = 2 * (n : Int) := by unfold wrap64; omega
    by_cases hlt : s < 2 * n
    · have hlt' : (s : Int) < 2 * (n : Int) := by omega
      cases f with
      | zero => have := HG.out; simp at this; omega
      | succ f =>
        have HF' : Hid (slF f (2 * s) n = S) := by have := HF.out; rw [slF, if_pos hlt] at this; exact this
        have HG' : Hid (2 * n ≤ 2 * s * 2 ^ f) := by have := HG.out; rw [Nat.pow_succ, ← Nat.mul_assoc] at this; show _ ≤ _; rw [Nat.mul_assoc]; omega
        clear HF HG
        go_wp2
        go_roundw
        case rel => exact ⟨2 * s, f, by go_num, by omega, by omega, HF'.out, HG'.out, trivial⟩
        case measure => simp [intOf]; omega
    · have hlt' : ¬ (s : Int) < 2 * (n : Int) := by omega
      have HE : Hid (S = s) := by
        have := HF.out
        show S = s
        cases f with
        | zero => exact this.symm
        | succ f => rw [slF, if_neg hlt] at this; exact this.symm
      clear HF HG
      go_wp2
      go_ret
      exact ⟨ret_int (by rw [HE.out]), rfl⟩
end Go.Proofs.Ythfjdoenofkghaa
