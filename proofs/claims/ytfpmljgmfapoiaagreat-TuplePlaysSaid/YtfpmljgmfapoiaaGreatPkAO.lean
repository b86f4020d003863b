/-
  PkAO: HdU HvT, one behind the other (tools/pack.py).
-/
import Derived.Test.YtfpmljgmfapoiaaGreatProg
import Derived.Test.YtfpmljgmfapoiaaGreatPkAJ
import Derived.Test.YtfpmljgmfapoiaaGreatPkAA
import Derived.Maps.AppendAt
import Derived.OwnWalk
import Derived.Laws.BitsAllLaws
import Derived.Test.YtfpmljgmfapoiaaGreatPkAD
import Derived.Test.YtfpmljgmfapoiaaGreatPkAN
import Derived.ScopeJumps
import Derived.WalkMore
/-
  Lists of bytes in memory: read, owned, written, appended to.
-/
namespace Go.Proofs.YtfpmljgmfapoiaaGreat.Hx
open Go.RowKit
set_option linter.unusedVariables false
set_option linter.unusedSimpArgs false

/-- The slice v of w reads as the list of bytes. -/
def SrcB (w : World) (v : Value) (l : List Nat) : Prop :=
  ∃ (ad : Option Addr) (cap : Nat), v = .slice ad l.length cap ∧ l.length ≤ cap ∧ (0 < l.length → ∃ g off, ad = some ⟨g, off, none⟩ ∧ ∀ k (hk : k < l.length), w.cell? ⟨g, off + k, none⟩ = some (.int .u8 ((l[k]'hk : Nat) : Int)))
theorem SrcB.keep {w w1 : World} {v : Value} {l : List Nat} (h : SrcB w v l) (hb : Below w.heap.size w w1) : SrcB w1 v l := by
  obtain ⟨ad, cap, rfl, hc, h2⟩ := h
  refine ⟨ad, cap, rfl, hc, fun h0 => ?_⟩
  obtain ⟨g, off, rfl, h3⟩ := h2 h0
  exact ⟨g, off, rfl, fun k hk => by
    have := h3 k hk
    rw [hb.cell (World.block_lt_of_cell? w _ this)]; exact this⟩
def flatB (l : List Nat) : List Value := l.map fun p : Nat => Value.int .u8 ((p : Nat) : Int)
theorem flatB_at (l : List Nat) (i : Nat) (h : i < l.length) : (flatB l)[i]? = some (.int .u8 ((l[i]'h : Nat) : Int)) := by
  unfold flatB; simp [h]
/-- The row v of w holds the bytes. -/
def RowB (w : World) (base : Nat) (v : Value) (l : List Nat) : Prop := ∃ ty : TypeId, w.ownsRow base ty 1 v l.length (flatB l)
theorem RowB.base {w : World} {b b' : Nat} {v : Value} {l : List Nat} (h : RowB w b v l) (hb : b' ≤ b) : RowB w b' v l := by
  obtain ⟨ty, h⟩ := h
  refine ⟨ty, h.1, ?_⟩
  rcases h.2 with h2 | ⟨g, cap, cur, hv, hg, r⟩
  · exact .inl h2
  · exact .inr ⟨g, cap, cur, hv, by omega, r⟩
theorem RowB.on {w w1 : World} {b : Nat} {v : Value} {l : List Nat} (h : RowB w b v l) (hb : Below w.heap.size w w1) : RowB w1 b v l := by
  obtain ⟨ty, h⟩ := h
  refine ⟨ty, h.1, ?_⟩
  rcases h.2 with h2 | ⟨g, cap, cur, hv, hg, hh, r⟩
  · exact .inl h2
  · exact .inr ⟨g, cap, cur, hv, hg, by rw [hb.block g (Array.getElem?_eq_some_iff.1 hh).1]; exact hh, r⟩
theorem RowB.alloc {w : World} {b : Nat} {v : Value} {l : List Nat} (h : RowB w b v l) (o : Obj) : RowB (w.alloc o) b v l := by
  obtain ⟨ty, h⟩ := h
  exact ⟨ty, World.ownsRow.alloc h o⟩
theorem RowB.nil (w : World) (b : Nat) : RowB w b (.slice none 0 0) [] := ⟨0, World.ownsRow_nil w b _ _⟩
theorem RowB.one (w : World) (b : Nat) {x : Int} (a : Nat) {B : Nat} (hB : B = w.heap.size) (hx : x = (a : Int)) (hb : b ≤ w.heap.size) : RowB (w.alloc (.cells #[.int .u8 x] 5)) b (.slice (some ⟨B, 0, none⟩) 1 1) [a] := by
  subst hx hB
  exact ⟨_, World.ownsRow_lit w #[.int .u8 a] 1 hb (by decide) rfl⟩
theorem RowB.lt {w : World} {b : Nat} {v : Value} {l : List Nat} (h : RowB w b v l) : ∀ k, v.ownBlock = some k → b ≤ k ∧ k < w.heap.size := by
  obtain ⟨ty, h⟩ := h
  exact World.ownsRow.lt h
theorem RowB.kept {w w' : World} {b : Nat} {v : Value} {l : List Nat} {row : Option Nat} (h : RowB w b v l) (hg : w.grownBy w' row) (hne : v.ownBlock = none ∨ v.ownBlock ≠ row) : RowB w' b v l := by
  obtain ⟨ty, h⟩ := h
  exact ⟨ty, World.ownsRow.kept h hg hne⟩
theorem RowB.src {w : World} {b : Nat} {v : Value} {l : List Nat} (h : RowB w b v l) : SrcB w v l := by
  obtain ⟨ty, h⟩ := h
  rcases h.2 with ⟨hv, hn⟩ | ⟨g, cap, cur, hv, hb, hg, hnc, r⟩
  · exact ⟨none, 0, by rw [hv, hn], by omega, fun h0 => by omega⟩
  · subst hv
    refine ⟨_, cap, rfl, hnc, fun _ => ⟨g, 0, rfl, fun j hj => ?_⟩⟩
    have := World.ownsRow.cells h (g := g) rfl j _ (flatB_at l j hj)
    rwa [Addr.add_lit] at this
theorem cell_allocB {w : World} {p : Addr} {v : Value} {o : Obj} (h : w.cell? p = some v) : (w.alloc o).cell? p = some v := cell_on1 ((Below.refl _ _).alloc (Nat.le_refl _) o) h
/-- What a row looks like. -/
theorem RowB.form {w : World} {b : Nat} {v : Value} {l : List Nat} (h : RowB w b v l) :
    ∃ (ad : Option Addr) (cap : Nat), v = .slice ad l.length cap ∧ l.length ≤ cap ∧ (0 < l.length → ∃ g, ad = some ⟨g, 0, none⟩ ∧ b ≤ g ∧ g < w.heap.size ∧ ∀ k (hk : k < l.length), w.cell? ⟨g, k, none⟩ = some (.int .u8 ((l[k]'hk : Nat) : Int))) := by
  obtain ⟨ty, h⟩ := h
  rcases h.2 with ⟨hv, hn⟩ | ⟨g, cap, cur, hv, hb, hg, hcap, r⟩
  · exact ⟨none, 0, by rw [hv, hn], by omega, fun h0 => by omega⟩
  · subst hv
    refine ⟨_, cap, rfl, hcap, fun _ => ⟨g, rfl, hb, (Array.getElem?_eq_some_iff.1 hg).1, fun k hk => ?_⟩⟩
    rw [World.ownsRow.cellAt h k (by omega), flatB_at l k hk]
theorem RowB.frozen {w : World} {b g cap n : Nat} {l : List Nat} (h : RowB w b (.slice (some ⟨g, 0, none⟩) n cap) l) (j : Nat) : w.frozen? ⟨g, j, none⟩ = false := by
  obtain ⟨ty, h⟩ := h
  rcases h.2 with ⟨hv, _⟩ | ⟨g', cap', cur, hv, hb, hg, r⟩
  · cases hv
  · cases hv; simp [World.frozen?, hg]
/-- A byte is written over. -/
theorem RowB.put {w : World} {b g cap n : Nat} {l : List Nat} (h : RowB w b (.slice (some ⟨g, 0, none⟩) n cap) l) (j x : Nat) :
    RowB (w.setCell ⟨g, j, none⟩ (.int .u8 x)) b (.slice (some ⟨g, 0, none⟩) n cap) (l.set j x) ∧ w.grownBy (w.setCell ⟨g, j, none⟩ (.int .u8 x)) (some g) := by
  obtain ⟨ty, h'⟩ := h
  have hn : n = l.length := by
    rcases h'.2 with ⟨hv, _⟩ | ⟨_, _, _, hv, _⟩
    · cases hv
    · cases hv; rfl
  rw [hn] at h' ⊢
  have s1 := h'.stored j (.int .u8 x)
  refine ⟨?_, s1.2⟩
  have e : (flatB l).set j (.int .u8 x) = flatB (l.set j x) := by
    unfold flatB
    rw [List.map_set]
  have := s1.1
  rw [e] at this
  refine ⟨ty, ?_⟩
  rw [List.length_set]
  exact this
theorem cell_on {W w1 : World} (hb : Below W.heap.size W w1) {p : Addr} {v : Value} (h : W.cell? p = some v) : w1.cell? p = some v := cell_on1 hb h
theorem cell_alloc {w : World} {p : Addr} {v : Value} {o : Obj} (h : w.cell? p = some v) : (w.alloc o).cell? p = some v := cell_allocB h
theorem SrcB.form {w : World} {v : Value} {l : List Nat} (h : SrcB w v l) : ∃ (ad : Option Addr) (cap : Nat), v = .slice ad l.length cap := by
  obtain ⟨ad, cap, rfl, _, _⟩ := h
  exact ⟨ad, cap, rfl⟩
end Go.Proofs.YtfpmljgmfapoiaaGreat.Hx
/-
  A table of slots in memory; how a header is scattered.
-/
namespace Go.Proofs.YtfpmljgmfapoiaaGreat.Hx
open Go.RowKit
set_option linter.unusedVariables false
set_option linter.unusedSimpArgs false

/-- The table in block t: how many entries there may be, are, how many slots are not free, the slots in the row v. -/
def Tab (w : World) (t : Nat) (v : Value) (M c sp : Nat) (l : List SlI) : Prop :=
  w.heap[t]? = some (.cells #[.int .i64 M, .int .i64 c, .int .i64 sp, v] 160 (0, 0)) ∧ RowL w 0 v l ∧ v.ownBlock ≠ some t
section
variable {w w1 : World} {t : Nat} {v : Value} {M c sp : Nat} {l : List SlI}
theorem Tab.on (h : Tab w t v M c sp l) (hb : Below w.heap.size w w1) : Tab w1 t v M c sp l := ⟨blk_on h.1 hb, h.2.1.on hb, h.2.2⟩
theorem Tab.lt (h : Tab w t v M c sp l) : t < w.heap.size := blk_lt h.1
theorem Tab.own (h : Tab w t v M c sp l) {k : Nat} (e : v.ownBlock = some k) : k < w.heap.size := (h.2.1.lt k e).2
theorem Tab.drew (h : Tab w t v M c sp l) : Tab w.drew t v M c sp l := h
end
theorem blk4 {w : World} {B : Nat} {v0 v1 v2 v3 : Value} {t : TypeId} {fr : Nat × Nat} (h : w.heap[B]? = some (.cells #[v0, v1, v2, v3] t fr)) : w.cell? ⟨B, 0, none⟩ = some v0 ∧ w.cell? ⟨B, 1, none⟩ = some v1 ∧ w.cell? ⟨B, 2, none⟩ = some v2 ∧ w.cell? ⟨B, 3, none⟩ = some v3 := ⟨blk_cell h rfl, blk_cell h rfl, blk_cell h rfl, blk_cell h rfl⟩
theorem blk3 {w : World} {B : Nat} {v0 v1 v2 : Value} {t : TypeId} {fr : Nat × Nat} (h : w.heap[B]? = some (.cells #[v0, v1, v2] t fr)) : w.cell? ⟨B, 0, none⟩ = some v0 ∧ w.cell? ⟨B, 1, none⟩ = some v1 ∧ w.cell? ⟨B, 2, none⟩ = some v2 := ⟨blk_cell h rfl, blk_cell h rfl, blk_cell h rfl⟩
/-- What a call that writes the table leaves as it was; v: its row ahead, v': behind. -/
structure Moved (w w' : World) (t : Nat) (v v' : Value) : Prop where
  os : w'.os = w.os
  tape : w'.tape = w.tape
  output : w'.output = w.output
  size : w.heap.size ≤ w'.heap.size
  block : ∀ k, k < w.heap.size → k ≠ t → v.ownBlock ≠ some k → w'.heap[k]? = w.heap[k]?
  own : ∀ k, v'.ownBlock = some k → v.ownBlock = some k ∨ w.heap.size ≤ k
theorem Moved.of_below {w w' : World} {t : Nat} {v : Value} (h : Below w.heap.size w w') : Moved w w' t v v :=
  ⟨h.os, h.tape, h.output, h.size, fun k hk _ _ => h.block k hk, fun k e => .inl e⟩
theorem Moved.below {w w' : World} {t B : Nat} {v v' : Value} (h : Moved w w' t v v') (hB : B ≤ w.heap.size) (ht : B ≤ t) (hv : ∀ k, v.ownBlock = some k → B ≤ k) : Below B w w' :=
  ⟨h.os, h.tape, h.output, h.size, fun k hk => h.block k (by omega) (by omega) (fun e => by have := hv k e; omega)⟩
theorem Moved.ge {w w' : World} {t B : Nat} {v v' : Value} (h : Moved w w' t v v') (hB : B ≤ w.heap.size) (hv : ∀ k, v.ownBlock = some k → B ≤ k) : ∀ k, v'.ownBlock = some k → B ≤ k := fun k e => by
  rcases h.own k e with h1 | h1
  · exact hv k h1
  · omega
theorem Moved.trans {w w1 w2 : World} {t : Nat} {v v1 v2 : Value} (h : Moved w w1 t v v1) (g : Moved w1 w2 t v1 v2) : Moved w w2 t v v2 :=
  ⟨g.os.trans h.os, g.tape.trans h.tape, g.output.trans h.output, Nat.le_trans h.size g.size, fun k hk ht hv => by
    rw [g.block k (Nat.lt_of_lt_of_le hk h.size) ht (fun e => by rcases h.own k e with h1 | h1
                                                                 · exact hv h1
                                                                 · omega), h.block k hk ht hv], fun k e => by
    rcases g.own k e with h1 | h1
    · exact h.own k h1
    · exact .inr (Nat.le_trans h.size h1)⟩
theorem Moved.undrew {w w' : World} {t : Nat} {v v' : Value} (m : Moved w.drew w' t v v') : Moved w w' t v v' := ⟨m.os, m.tape, m.output, m.size, m.block, m.own⟩
/-- A block that is neither the table's nor its row's. -/
def Kb (w : World) (t : Nat) (v : Value) (B : Nat) (o : Obj) : Prop := w.heap[B]? = some o ∧ B ≠ t ∧ v.ownBlock ≠ some B
theorem Kb.lt {w : World} {t : Nat} {v : Value} {B : Nat} {o : Obj} (h : Kb w t v B o) : B < w.heap.size := blk_lt h.1
theorem Kb.moved {w w' : World} {t : Nat} {v v' : Value} {B : Nat} {o : Obj} (h : Kb w t v B o) (m : Moved w w' t v v') : Kb w' t v' B o := by
  refine ⟨by rw [m.block B h.lt h.2.1 h.2.2]; exact h.1, h.2.1, fun e => ?_⟩
  rcases m.own B e with h1 | h1
  · exact h.2.2 h1
  · have := h.lt; omega
theorem Kb.on {w w1 : World} {t : Nat} {v : Value} {B : Nat} {o : Obj} (h : Kb w t v B o) (hb : Below w.heap.size w w1) : Kb w1 t v B o := ⟨blk_on h.1 hb, h.2.1, h.2.2⟩

/-- The word's last part of MurmurHash3. -/
def mixN (x : Nat) : Nat :=
  let a := x ^^^ (x / 8589934592)
  let b := a * 18397679294719823053 % 18446744073709551616
  let c := b ^^^ (b / 8589934592)
  let d := c * 14181476777654086739 % 18446744073709551616
  d ^^^ (d / 8589934592)
theorem xor_lt64 {a b : Nat} (ha : a < 18446744073709551616) (hb : b < 18446744073709551616) : a ^^^ b < 18446744073709551616 := Nat.xor_lt_two_pow (n := 64) ha hb
theorem mixN_lt (x : Nat) : mixN x < 18446744073709551616 := by
  unfold mixN
  exact xor_lt64 (Nat.mod_lt _ (by decide)) (by have := Nat.mod_lt ((x ^^^ x / 8589934592) * 18397679294719823053 % 18446744073709551616 ^^^ (x ^^^ x / 8589934592) * 18397679294719823053 % 18446744073709551616 / 8589934592) (show 0 < 18446744073709551616 by decide); omega)
theorem mix_a (y : Nat) (hy : y < 18446744073709551616) : bits .xor .u64 (y : Int) ((y : Int) / 8589934592) = ((y ^^^ (y / 8589934592) : Nat) : Int) := by
  have := u64_xor_nat y (y / 8589934592) hy (by omega)
  rw [← this]; congr 1
theorem mix_b (y c : Nat) : IntKind.u64.wrap ((y : Int) * (c : Int)) = ((y * c % 18446744073709551616 : Nat) : Int) := by
  rw [IntKind.wrap_u64, ← Int.natCast_mul]; rfl
theorem mixC (z : Int) (x : Nat) (w : World) (hz : z = (x : Int)) (hx : x < 18446744073709551616) :
    Calls Tryz.prog 107 #[.int .u64 z] w fun e w' => e = .returned (.int .u64 (mixN x : Int)) ∧ w' = w := by
  subst hz
  go_enter Tryz.func107, Tryz.ntmps107
  go_wp2
  go_ret
  refine ⟨ret_int ?_, rfl⟩
  have hb := fun y => mix_b y 18397679294719823053
  have hd := fun y => mix_b y 14181476777654086739
  have h0 : ∀ y : Nat, y % 18446744073709551616 < 18446744073709551616 := fun y => Nat.mod_lt _ (by decide)
  simp only [show ((18397679294719823053 : Nat) : Int) = 18397679294719823053 from rfl, show ((14181476777654086739 : Nat) : Int) = 14181476777654086739 from rfl] at hb hd
  rw [mix_a x hx, hb, mix_a _ (h0 _), hd, mix_a _ (h0 _)]
  rfl
def scH (k : Hd) : Nat := mixN (mixN ((k.s * 4294967296) ||| k.d) ^^^ (((k.p * 16777216) ||| (k.q * 256)) ||| k.r))
theorem or_lt64 {a b : Nat} (ha : a < 18446744073709551616) (hb : b < 18446744073709551616) : a ||| b < 18446744073709551616 := Nat.or_lt_two_pow (n := 64) ha hb
/-- The first slot of so many. -/
def scF (k : Hd) (n : Nat) : Nat := scH k &&& (n - 1)
/-- The step. -/
def scS (k : Hd) (n : Nat) : Nat := ((scH k / 4294967296) &&& (n - 1)) ||| 1
/-- The way of a header. -/
def way (k : Hd) (n i : Nat) : Nat := (scF k n + i * scS k n) % n
theorem scS_odd (k : Hd) (n : Nat) : scS k n % 2 = 1 := by
  unfold scS
  have h := Nat.testBit_or ((scH k / 4294967296) &&& (n - 1)) 1 0
  rw [show (1 : Nat).testBit 0 = true from rfl, Bool.or_true, Nat.testBit_zero, decide_eq_true_eq] at h
  exact h
theorem way_scat : Scat way where
  lt := fun k m i => Nat.mod_lt _ (Nat.two_pow_pos m)
  onto := fun k m j hj => way_onto (scS_odd k _) j hj
theorem scF_lt (k : Hd) {n : Nat} (h : 1 ≤ n) : scF k n < n := by
  have := Nat.and_le_right (n := scH k) (m := n - 1)
  unfold scF; omega
theorem scS_le (k : Hd) {n : Nat} (h : 1 ≤ n) : scS k n ≤ n := by
  unfold scS
  have h1 := Nat.and_le_right (n := scH k / 4294967296) (m := n - 1)
  have h2 : ∀ a : Nat, a ||| 1 ≤ a + 1 := fun a => by
    have h3 := Nat.or_mod_two_pow (a := a) (b := 1) (n := 1)
    have h4 := Nat.or_div_two_pow (a := a) (b := 1) (n := 1)
    simp at h3 h4
    omega
  have := h2 ((scH k / 4294967296) &&& (n - 1))
  omega
set_option maxHeartbeats 1000000 in
theorem scatC (k : Hd) (n : Nat) (w : World) (o : OkH k) (hn : 1 ≤ n) (hn2 : n ≤ 4294967296) :
    Calls Tryz.prog 91 #[.agg #[.int .u32 k.s, .int .u32 k.d, .int .u16 k.p, .int .u16 k.q, .int .u8 k.r], .int .i64 n] w fun e w' => e = .returned (.tuple #[.int .i64 (scF k n : Int), .int .i64 (scS k n : Int)]) ∧ Below w.heap.size w w' := by
  obtain ⟨o1, o2, o3, o4, o5⟩ := o
  have e1 : bits .or .u64 ((k.s : Int) * 4294967296) (k.d : Int) = (((k.s * 4294967296) ||| k.d : Nat) : Int) := by
    rw [← u64_or_nat _ _ (by omega) (by omega)]; rfl
  have e2 : bits .or .u64 (bits .or .u64 ((k.p : Int) * 16777216) ((k.q : Int) * 256)) (k.r : Int) = ((((k.p * 16777216) ||| (k.q * 256)) ||| k.r : Nat) : Int) := by
    rw [← u64_or_nat _ _ (or_lt64 (by omega) (by omega)) (by omega), ← u64_or_nat _ _ (by omega) (by omega)]; rfl
  have hm1 := fun z w hz => mixC z ((k.s * 4294967296) ||| k.d) w hz (or_lt64 (by omega) (by omega))
  have hm2 := fun z w hz => mixC z (mixN ((k.s * 4294967296) ||| k.d) ^^^ (((k.p * 16777216) ||| (k.q * 256)) ||| k.r)) w hz (xor_lt64 (mixN_lt _) (or_lt64 (or_lt64 (by omega) (by omega)) (by omega)))
  have E1 : Hid (bits .or .u64 ((k.s : Int) * 4294967296) (k.d : Int) = (((k.s * 4294967296) ||| k.d : Nat) : Int)) := e1
  have E2 : Hid (bits .or .u64 (bits .or .u64 ((k.p : Int) * 16777216) ((k.q : Int) * 256)) (k.r : Int) = ((((k.p * 16777216) ||| (k.q * 256)) ||| k.r : Nat) : Int)) := e2
  have l2 : (((k.p * 16777216) ||| (k.q * 256)) ||| k.r) < 18446744073709551616 := or_lt64 (or_lt64 (by omega) (by omega)) (by omega)
  have l1 := mixN_lt ((k.s * 4294967296) ||| k.d)
  have HX : Hid (bits .xor .u64 (mixN ((k.s * 4294967296) ||| k.d) : Int) (((((k.p * 16777216) ||| (k.q * 256)) ||| k.r : Nat)) : Int) = ((mixN ((k.s * 4294967296) ||| k.d) ^^^ (((k.p * 16777216) ||| (k.q * 256)) ||| k.r) : Nat) : Int)) := u64_xor_nat _ _ l1 l2
  have hH : scH k < 18446744073709551616 := mixN_lt _
  have HF : Hid (bits .and .u64 (scH k : Int) ((n : Int) - 1) = (scF k n : Int)) := by
    show _ = _
    rw [show (n : Int) - 1 = ((n - 1 : Nat) : Int) by omega, u64_and_nat _ _ hH (by omega)]; rfl
  have HS : Hid (bits .or .u64 (bits .and .u64 ((scH k : Int) / 4294967296) ((n : Int) - 1)) 1 = (scS k n : Int)) := by
    show _ = _
    rw [show (n : Int) - 1 = ((n - 1 : Nat) : Int) by omega, show (scH k : Int) / 4294967296 = ((scH k / 4294967296 : Nat) : Int) by omega, u64_and_nat _ _ (by omega) (by omega)]
    exact u64_or_nat _ 1 (by have := Nat.and_le_right (n := scH k / 4294967296) (m := n - 1); omega) (by decide)
  have hF := scF_lt k hn
  have hS := scS_le k hn
  have hn0 : (1 : Int) ≤ n := by omega
  have hn3 : (n : Int) ≤ 4294967296 := by omega
  clear e1 e2
  go_enter Tryz.func91, Tryz.ntmps91
  go_wp2_with (fail)
  refine (hm1 _ _ (by rw [E1.out])).mono ?_
  rintro e w1 ⟨rfl, hw⟩
  obtain rfl := hw
  go_wp2_with (fail)
  refine (hm2 _ _ (by rw [E2.out, HX.out])).mono ?_
  rintro e w1 ⟨rfl, hw⟩
  obtain rfl := hw
  have hU : mixN (mixN (k.s * 4294967296 ||| k.d) ^^^ (k.p * 16777216 ||| k.q * 256 ||| k.r)) = scH k := rfl
  rw [hU]
  clear hm1 hm2 HX E1 E2 hU
  go_wp2
  go_ret2
  refine ⟨?_, by (repeat (first | assumption | exact Below.refl _ _ | refine Below.drew ?_ | refine bel_drewN ?_ _ | refine Below.setCell ?_ (by first | omega | (simp; done) | (simp; omega)) _ | refine Below.alloc ?_ (by first | omega | (simp; done) | (simp; omega)) _ | refine bel_of ?_ (by assumption)))⟩
  show Ending.returned (.tuple #[.int .i64 (wrap64 (bits .and .u64 (scH k : Int) ((n : Int) - 1))), .int .i64 (wrap64 (bits .or .u64 (bits .and .u64 ((scH k : Int) / 4294967296) ((n : Int) - 1)) 1))]) = _
  rw [HF.out, HS.out, show wrap64 (scF k n : Int) = (scF k n : Int) by unfold wrap64; omega, show wrap64 (scS k n : Int) = (scS k n : Int) by unfold wrap64; omega]
/-- How many slots so many entries are laid into. -/
def slF : Nat → Nat → Nat → Nat
  | 0, s, _ => s
  | f + 1, s, n => if s < 2 * n then slF f (2 * s) n else s
def sltN (n : Nat) : Nat := slF 30 8 n
theorem slF_is : ∀ (f s n m : Nat), s = 2 ^ m → 3 ≤ m → (s = 8 ∨ s < 4 * n) → 2 * n ≤ s * 2 ^ f → ∃ m', slF f s n = 2 ^ m' ∧ 3 ≤ m' ∧ 2 * n ≤ slF f s n ∧ (slF f s n = 8 ∨ slF f s n < 4 * n)
  | 0, s, n, m, hs, hm, hb, hf => ⟨m, hs, hm, by simpa [slF] using hf, hb⟩
  | f + 1, s, n, m, hs, hm, hb, hf => by
    unfold slF
    split
    · exact slF_is f (2 * s) n (m + 1) (by rw [hs, Nat.pow_succ]; omega) (by omega) (by omega) (by rw [Nat.pow_succ, ← Nat.mul_assoc] at hf; rw [Nat.mul_assoc]; omega)
    · exact ⟨m, hs, hm, by omega, hb⟩
theorem sltN_is {n : Nat} (h : n ≤ 65537) : ∃ m, sltN n = 2 ^ m ∧ 3 ≤ m ∧ 2 * n ≤ sltN n ∧ (sltN n = 8 ∨ sltN n < 4 * n) :=
  slF_is 30 8 n 3 rfl (by omega) (.inl rfl) (by omega)
set_option maxHeartbeats 1000000 in
theorem sltC (n : Nat) (w : World) (hn : n ≤ 65537) :
    Calls Tryz.prog 112 #[.int .i64 n] w fun e w' => e = .returned (.int .i64 (sltN n : Int)) ∧ w' = w := by
  obtain ⟨S, hS⟩ : ∃ S, S = sltN n := ⟨_, rfl⟩
  have HS : Hid (slF 30 8 n = S) := hS.symm
  rw [← hS]
  clear hS
  have hn1 : (n : Int) ≤ 65537 := by omega
  go_enter Tryz.func112, Tryz.ntmps112
  go_wp2
  go_loopw [3] (fun v3 wr => ∃ s f : Nat, v3 = .int .i64 s ∧ 1 ≤ s ∧ s ≤ 524288 ∧ Hid (slF f s n = S) ∧ Hid (2 * n ≤ s * 2 ^ f) ∧ wr = w) (fun v3 _ => 2 * n - (intOf v3).toNat)
  case atStart => exact ⟨8, 30, rfl, by omega, by omega, HS.out, (by show 2 * n ≤ 8 * 2 ^ 30; omega), rfl⟩
  case round =>
    obtain ⟨s, f, rfl, h1, h2, HF, HG, rfl⟩ := hrel
    have hw2 : wrap64 (2 * (n : Int)) = 2 * (n : Int) := by unfold wrap64; omega
    by_cases hlt : s < 2 * n
    · have hlt' : (s : Int) < 2 * (n : Int) := by omega
      cases f with
      | zero => have := HG.out; simp at this; omega
      | succ f =>
        have HF' : Hid (slF f (2 * s) n = S) := by have := HF.out; rw [slF, if_pos hlt] at this; exact this
        have HG' : Hid (2 * n ≤ 2 * s * 2 ^ f) := by have := HG.out; rw [Nat.pow_succ, ← Nat.mul_assoc] at this; show _ ≤ _; rw [Nat.mul_assoc]; omega
        clear HF HG
        go_wp2
        go_roundw
        case rel => exact ⟨2 * s, f, by go_num, by omega, by omega, HF'.out, HG'.out, trivial⟩
        case measure => simp [intOf]; omega
    · have hlt' : ¬ (s : Int) < 2 * (n : Int) := by omega
      have HE : Hid (S = s) := by
        have := HF.out
        show S = s
        cases f with
        | zero => exact this.symm
        | succ f => rw [slF, if_neg hlt] at this; exact this.symm
      clear HF HG
      go_wp2
      go_ret
      exact ⟨ret_int (by rw [HE.out]), rfl⟩
end Go.Proofs.YtfpmljgmfapoiaaGreat.Hx
