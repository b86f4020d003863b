/-
  PkAA: MkPlain MkPlB PxKin MkA PxPlain TbPl0 TbPlain ExPlain, one behind the other (tools/pack.py).
-/
import Derived.Laws.BitsAllLaws
import Derived.RowKit
import Derived.Lib.BitFns
import Derived.Below
import Derived.WalkKit
import Derived.WalkSpells
import Derived.WalkLawsBesides
import Derived.Deep.QuietTactic
import Derived.BigQuiet
import Derived.Test.YtfpmljgmfapoiaaProg
/-
  Plain arithmetic on bytes: no program is named here. The bits of a byte from its first one ('tb'), masks as two bytes, what they hold, what two of them share, what is left of one, the hull of some bytes.
-/
namespace Go.Proofs.Ytfpmljgmfapoiaa
open Go.RowKit

/-- The bit i of a byte, counted from its first. -/
def tb (a i : Nat) : Nat := a / 2 ^ (7 - i) % 2
theorem tb_lt (a i : Nat) : tb a i < 2 := Nat.mod_lt _ (by decide)
theorem test_ge {a i : Nat} (ha : a < 256) (h : 8 ≤ i) : a.testBit i = false :=
  Nat.testBit_lt_two_pow (Nat.lt_of_lt_of_le ha (Nat.pow_le_pow_right (n := 2) (by decide) h))
theorem not8 {c : Nat} (hc : c < 256) (i : Nat) : (255 - c).testBit i = (decide (i < 8) && !c.testBit i) := by
  have := Nat.testBit_two_pow_sub_succ (x := c) (n := 8) hc i
  rw [← this, show 2 ^ 8 - (c + 1) = 255 - c by omega]
theorem xor_lt {a b : Nat} (ha : a < 256) (hb : b < 256) : a ^^^ b < 256 := Nat.xor_lt_two_pow (n := 8) ha hb
/-- May the mask be? -/
def okM (v c : Nat) : Bool := decide (v &&& c = v)
/-- Does it hold p? -/
def hasM (v c p : Nat) : Bool := decide (p &&& c = v)
theorem okM_iff (v c : Nat) : okM v c = true ↔ ∀ i, v.testBit i = true → c.testBit i = true := by
  unfold okM
  rw [decide_eq_true_eq]
  constructor
  · intro h i hi
    have := congrArg (fun y => Nat.testBit y i) h
    simp only [Nat.testBit_and, hi, Bool.true_and] at this
    exact this
  · intro h
    apply Nat.eq_of_testBit_eq
    intro i
    have := h i
    rw [Nat.testBit_and]
    cases hv : v.testBit i
    · rfl
    · rw [this hv]; rfl
/-- The code's test of a mask. -/
theorem ok_andNot {v c : Nat} (hc : c < 256) (hv : v < 256) : v &&& (255 - c) = 0 ↔ okM v c = true := by
  rw [okM_iff]
  constructor
  · intro h i hi
    have := congrArg (fun y => Nat.testBit y i) h
    simp only [Nat.testBit_and, not8 hc, Nat.zero_testBit, hi, Bool.true_and] at this
    by_cases h8 : i < 8
    · simpa [h8] using this
    · rw [test_ge hv (by omega)] at hi; cases hi
  · intro h
    apply Nat.eq_of_testBit_eq
    intro i
    have := h i
    simp only [Nat.testBit_and, not8 hc, Nat.zero_testBit]
    revert this
    cases v.testBit i <;> cases c.testBit i <;> simp
/-- The first i bits of a byte. -/
def hi (x i : Nat) : Nat := x / 2 ^ (8 - i) * 2 ^ (8 - i)
end Go.Proofs.Ytfpmljgmfapoiaa
/-
  Plain arithmetic on bytes: what is left of one mask without another, the hull of some bytes, how many bytes a mask holds. No program is named here.
-/
namespace Go.Proofs.Ytfpmljgmfapoiaa
open Go.RowKit
set_option linter.unusedVariables false
set_option linter.unusedSimpArgs false

/-- Is the bit i one that b cares for and a does not? -/
def cut (c d i : Nat) : Bool := decide (tb d i = 1 ∧ tb c i = 0)
/-- What is left over at the bit i, and the piece told there. -/
def rv (v x i : Nat) : Nat := v ||| hi x i
def piece (v c x d i : Nat) : Nat × Nat := (rv v x i ||| (1 - tb x i) * 2 ^ (7 - i), rv c d (i + 1))
/-- How many of some masks hold p. -/
def cnt (p : Nat) (l : List (Nat × Nat)) : Nat := l.countP (fun m => hasM m.1 m.2 p)
def num (f : Nat → Bool) (m : Nat) : Nat := (List.range m).countP f
/-- How many values the last bit may have. -/
def way (v c : Nat) : Nat := (if 0 &&& c % 2 = v % 2 then 1 else 0) + (if 1 &&& c % 2 = v % 2 then 1 else 0)
def ways : Nat → Nat → Nat → Nat
  | 0, _, _ => 1
  | n + 1, v, c => ways n (v / 2) (c / 2) * way v c
end Go.Proofs.Ytfpmljgmfapoiaa
/-
  A region that draws its order, whose operations only read and whose callees only make memory of their own: one walk in the order of the text serves every order. No program is named here.
-/
namespace Go.Proofs.Ytfpmljgmfapoiaa
open Go.RowKit
set_option linter.unusedVariables false
set_option linter.unusedSimpArgs false

/-- A world that parts from W above W's blocks alone. -/
structure Kin (W : World) where
  val : World
  is : Below W.heap.size W val

theorem wp_region_kin {P : Program} {id : Nat} {Q : Exit → Act → World → Prop} {a : Act} {w : World} {l : List Oper} (W : World) (hW : Below W.heap.size W w) (hm : P.follows .mixedOrders = true) (hB : Region.lexB .any l.toArray = true)
    (h : wpQuiet P l.toArray (fun w' => ∃ x : Kin W, w' = x.val) (fun a' => ∀ w', (∃ x : Kin W, w' = x.val) → Q .normal a' w') l a) : (Code.region id l.toArray true).wp P Q a w :=
  wp_region_quiet (C := fun w' => ∃ x : Kin W, w' = x.val) hm hB ⟨⟨_, hW.drew⟩, rfl⟩ (by simpa using h)

theorem kin_call {P : Program} {f : FuncId} {args : Array Value} {W : World} {x : Kin W} {v : Value}
    (h : Calls P f args x.val fun e w' => e = .returned v ∧ Below x.val.heap.size x.val w') : Calls P f args x.val fun e w'' => e = .returned v ∧ ∃ y : Kin W, w'' = y.val :=
  h.mono fun _ w' ⟨he, hb⟩ => ⟨he, ⟨w', x.is.trans (hb.mono x.is.size)⟩, rfl⟩
theorem kin_cell {W : World} {p : Addr} (h : p.block < W.heap.size) (x : Kin W) : x.val.cell? p = W.cell? p := x.is.cell h
theorem bcell {W w1 : World} (hb : Below W.heap.size W w1) : (∀ b o, b < W.heap.size → w1.cell? ⟨b, o, none⟩ = W.cell? ⟨b, o, none⟩) ∧ (∀ b o, b < W.heap.size → w1.frozen? ⟨b, o, none⟩ = W.frozen? ⟨b, o, none⟩) :=
  ⟨fun b o h => hb.cell (p := ⟨b, o, none⟩) h, fun b o h => hb.frozen (p := ⟨b, o, none⟩) h⟩
theorem bel_drewN {B : Nat} {a w : World} (h : Below B a w) (n : Nat) : Below B a (w.drewN n) := ⟨h.os, h.tape, h.output, h.size, h.block⟩
theorem bel_of {B : Nat} {W V w1 : World} (h : Below B W V) (hb : Below V.heap.size V w1) (hB : B ≤ V.heap.size := by first | omega | (simp <;> omega)) : Below B W w1 := h.trans (hb.mono hB)
theorem cell_on1 {W w1 : World} (hb : Below W.heap.size W w1) {p : Addr} {v : Value} (h : W.cell? p = some v) : w1.cell? p = some v := by rw [hb.cell (World.block_lt_of_cell? W p h)]; exact h
theorem ret_int {k : IntKind} {a b : Int} (h : a = b) : Ending.returned (.int k a) = .returned (.int k b) := by rw [h]
theorem ret_same {a b : Bool} (h : a = b) : Ending.returned (.bool a) = .returned (.bool b) := by rw [h]
end Go.Proofs.Ytfpmljgmfapoiaa
/-
  What the small functions of package mask, and of the document's answer, hand back: one contract a function, for every world; each makes memory of its own alone.
-/
namespace Go.Proofs.Ytfpmljgmfapoiaa
open Go.RowKit
set_option linter.unusedVariables false
set_option linter.unusedSimpArgs false

def chk (v c : Nat) : Int := if okM v c then 0 else 40
theorem chk_ok {v c : Nat} (h : okM v c = true) : chk v c = 0 := by unfold chk; rw [if_pos h]
theorem chk_no {v c : Nat} (h : okM v c = false) : chk v c = 40 := by unfold chk; rw [h]; rfl
theorem checkM (v c : Nat) (w : World) (hv : v < 256) (hc : c < 256) :
    Calls Try.prog 72 #[.agg #[.int .u8 v, .int .u8 c]] w fun e w' => e = .returned (.int .i64 (chk v c)) ∧ Below w.heap.size w w' := by
  cases h : okM v c
  · have h' : ¬ bits .andNot .u8 (v : Int) (c : Int) = 0 := by
      rw [u8_andNot_nat _ _ hv hc]
      intro e
      have : v &&& (255 - c) = 0 := by omega
      rw [ok_andNot hc hv, h] at this; cases this
    rw [chk_no h]
    clear h
    go_enter Try.func72, Try.ntmps72
    go_wp2
    go_ret
    exact ⟨rfl, by (repeat (first | assumption | exact Below.refl _ _ | refine Below.drew ?_ | refine bel_drewN ?_ _ | refine Below.setCell ?_ (by first | omega | (simp; done) | (simp; omega)) _ | refine Below.alloc ?_ (by first | omega | (simp; done) | (simp; omega)) _ | refine bel_of ?_ (by assumption)))⟩
  · have h' : bits .andNot .u8 (v : Int) (c : Int) = 0 := by
      rw [u8_andNot_nat _ _ hv hc, (ok_andNot hc hv).2 h]; rfl
    rw [chk_ok h]
    clear h
    go_enter Try.func72, Try.ntmps72
    go_wp2
    go_ret
    exact ⟨rfl, by (repeat (first | assumption | exact Below.refl _ _ | refine Below.drew ?_ | refine bel_drewN ?_ _ | refine Below.setCell ?_ (by first | omega | (simp; done) | (simp; omega)) _ | refine Below.alloc ?_ (by first | omega | (simp; done) | (simp; omega)) _ | refine bel_of ?_ (by assumption)))⟩
end Go.Proofs.Ytfpmljgmfapoiaa
/-
  Plain arithmetic on prefixes of words of 32 bits: no program is named here.
-/
namespace Go.Proofs.Ytfpmljgmfapoiaa.Pf
open Go.RowKit
set_option linter.unusedVariables false
set_option linter.unusedSimpArgs false

/-- How many words begin with the same n bits. -/
def bk (n : Nat) : Nat := 2 ^ (32 - n)
/-- A word's first n bits, zeros behind. -/
def ct (a n : Nat) : Nat := a / bk n * bk n
/-- The bit i of a word, counted from its first. -/
def tb (a i : Nat) : Nat := a / 2 ^ (31 - i) % 2

theorem bk_pos (n : Nat) : 0 < bk n := Nat.pow_pos (by decide)
theorem bk_le (n : Nat) : bk n ≤ 4294967296 := by
  have : bk n ≤ 2 ^ 32 := Nat.pow_le_pow_right (by decide) (by omega)
  simpa using this
theorem tb_lt (a i : Nat) : tb a i < 2 := Nat.mod_lt _ (by decide)
theorem ct_le (a n : Nat) : ct a n ≤ a := Nat.div_mul_le_self _ _
theorem ct_lt (a n : Nat) (h : a < 4294967296) : ct a n < 4294967296 := Nat.lt_of_le_of_lt (ct_le a n) h
/-! words -/
theorem shr_all : ∀ n, n < 33 → 4294967295 / 2 ^ n = bk n - 1 := by decide +kernel
theorem shr_int (n : Nat) (h : n ≤ 32) : (4294967295 : Int) / 2 ^ n = ((bk n - 1 : Nat) : Int) := by
  rw [← shr_all n (by omega)]; simp
theorem lw_lt (n : Nat) : bk n - 1 < 4294967296 := by have := bk_le n; have := bk_pos n; omega
theorem and_lw (a n : Nat) (ha : a < 4294967296) : bits .and .u32 (a : Int) ((bk n - 1 : Nat) : Int) = ((a % bk n : Nat) : Int) := by
  rw [u32_and_nat _ _ ha (lw_lt n)]; unfold bk; rw [Nat.and_two_pow_sub_one_eq_mod]
theorem andNot_nat (a k : Nat) (ha : a < 2 ^ 32) (hk : k ≤ 32) : a &&& (2 ^ 32 - 2 ^ k) = a / 2 ^ k * 2 ^ k := by
  apply Nat.eq_of_testBit_eq
  intro i
  have h1 : 2 ^ 32 - 2 ^ k = 2 ^ 32 - ((2 ^ k - 1) + 1) := by have : 0 < 2 ^ k := Nat.pow_pos (by decide); omega
  have h2 : 2 ^ k - 1 < 2 ^ 32 := by have := Nat.pow_le_pow_right (n := 2) (by decide) hk; have : 0 < 2 ^ k := Nat.pow_pos (by decide); omega
  rw [Nat.testBit_and, h1, Nat.testBit_two_pow_sub_succ h2, Nat.testBit_two_pow_sub_one, ← Nat.shiftRight_eq_div_pow, ← Nat.shiftLeft_eq, Nat.testBit_shiftLeft, Nat.testBit_shiftRight]
  by_cases hi : i < k
  · simp [hi]; omega
  · by_cases h3 : i < 32
    · simp [hi, h3, show k ≤ i by omega, show k + (i - k) = i by omega]
    · have : a.testBit i = false := Nat.testBit_lt_two_pow (Nat.lt_of_lt_of_le ha (Nat.pow_le_pow_right (by decide) (by omega)))
      simp [h3, show k ≤ i by omega, show k + (i - k) = i by omega, this]
theorem andNot_lw (a n : Nat) (ha : a < 4294967296) : bits .andNot .u32 (a : Int) ((bk n - 1 : Nat) : Int) = (ct a n : Int) := by
  rw [u32_andNot_nat _ _ ha (lw_lt n)]
  have h : 4294967295 - (bk n - 1) = 2 ^ 32 - 2 ^ (32 - n) := by have := bk_pos n; have := bk_le n; show 4294967295 - (bk n - 1) = 4294967296 - bk n; omega
  rw [h, andNot_nat a (32 - n) (by simpa using ha) (by omega)]
  rfl
/-! what a prefix is -/
/-- May it be? 20: the length; 21: a bit beyond; 0: it may. -/
def chk (a : Nat) (n : Int) : Int := if n < 0 ∨ 32 < n then 20 else if a % bk n.toNat = 0 then 0 else 21
theorem chk_out (a : Nat) (n : Int) (h : n < 0 ∨ 32 < n) : chk a n = 20 := by unfold chk; rw [if_pos h]
theorem chk_in (a n : Nat) (h : n ≤ 32) (h' : a % bk n = 0) : chk a (n : Int) = 0 := by
  unfold chk; rw [if_neg (by omega), if_pos (by simpa using h')]
theorem chk_bits (a n : Nat) (h : n ≤ 32) (h' : a % bk n ≠ 0) : chk a (n : Int) = 21 := by
  unfold chk; rw [if_neg (by omega), if_neg (by simpa using h')]
theorem chk_ok {a : Nat} {n : Int} (h : chk a n = 0) : ∃ m : Nat, n = (m : Int) ∧ m ≤ 32 ∧ a % bk m = 0 := by
  unfold chk at h
  by_cases h1 : n < 0 ∨ 32 < n
  · rw [if_pos h1] at h; omega
  · rw [if_neg h1] at h
    refine ⟨n.toNat, by omega, by omega, ?_⟩
    by_cases h2 : a % bk n.toNat = 0
    · exact h2
    · rw [if_neg h2] at h; omega
/-- Does the prefix hold the address? -/
def hasB (a : Nat) (n : Int) (x : Nat) : Bool := decide (chk a n = 0 ∧ ct x n.toNat = a)
/-- Ahead, the same, behind. -/
def cmpI (a b : Int) : Int := if a < b then -1 else if b < a then 1 else 0
/-! what the calls answer, as numbers -/
def oA (a : Nat) (n : Int) : Nat := if n < 0 ∨ 32 < n then 0 else ct a n.toNat
def oN (n : Int) : Int := if n < 0 ∨ 32 < n then 0 else n
def oE (n : Int) : Int := if n < 0 ∨ 32 < n then 20 else 0
def hE (a : Nat) (n : Int) : Int := if chk a n = 0 then (if n = 32 then 22 else 0) else chk a n
def hA (a : Nat) (n : Int) : Nat := if hE a n = 0 then a else 0
def hB (a : Nat) (n : Int) : Nat := if hE a n = 0 then a + bk (n.toNat + 1) else 0
def hN (a : Nat) (n : Int) : Int := if hE a n = 0 then n + 1 else 0
/-! how many first bits two words share -/
def bl (x : Nat) : Nat := if x = 0 then 0 else Nat.log2 x + 1
theorem xor_lt (a b : Nat) (ha : a < 4294967296) (hb : b < 4294967296) : a ^^^ b < 4294967296 := by
  have := Nat.xor_lt_two_pow (n := 32) (x := a) (y := b) (by simpa using ha) (by simpa using hb)
  simpa using this
end Go.Proofs.Ytfpmljgmfapoiaa.Pf
/-
  Rules as numbers, headers; which field is wrong; what matches. No program is named here. (PxPlain is laid with NS=Pf.)
-/
namespace Go.Proofs.Ytfpmljgmfapoiaa
set_option linter.unusedVariables false

def okI (s : Nat × Nat) : Bool := decide (s.1 ≤ s.2)
def hasI (s : Nat × Nat) (x : Nat) : Bool := decide (s.1 ≤ x ∧ x ≤ s.2)
/-- A rule: Id, Src (address, length), Dst, Sport, Dport, Proto, Action. -/
structure Ru where
  i : Int
  s : Nat
  sl : Int
  d : Nat
  dl : Int
  p : Nat × Nat
  q : Nat × Nat
  m : Nat × Nat
  act : Int
/-- A header: Src, Dst, Sport, Dport, Proto. -/
structure Hd where
  s : Nat
  d : Nat
  p : Nat
  q : Nat
  r : Nat
def OkH (h : Hd) : Prop := h.s < 4294967296 ∧ h.d < 4294967296 ∧ h.p < 65536 ∧ h.q < 65536 ∧ h.r < 256
def okR (R : Ru) : Bool := decide (1 ≤ R.i ∧ R.i ≤ 999999) && decide (Pf.chk R.s R.sl = 0) && decide (Pf.chk R.d R.dl = 0) && okI R.p && okI R.q && okM R.m.1 R.m.2 && decide (1 ≤ R.act ∧ R.act ≤ 4)
theorem okR_iff (R : Ru) : okR R = true ↔ (1 ≤ R.i ∧ R.i ≤ 999999) ∧ Pf.chk R.s R.sl = 0 ∧ Pf.chk R.d R.dl = 0 ∧ okI R.p = true ∧ okI R.q = true ∧ okM R.m.1 R.m.2 = true ∧ (1 ≤ R.act ∧ R.act ≤ 4) := by
  unfold okR
  simp only [Bool.and_eq_true, decide_eq_true_eq, and_assoc]
def I64 (x : Int) : Prop := -9223372036854775808 ≤ x ∧ x ≤ 9223372036854775807
def BdR (R : Ru) : Prop := R.s < 4294967296 ∧ R.d < 4294967296 ∧ R.p.1 < 65536 ∧ R.p.2 < 65536 ∧ R.q.1 < 65536 ∧ R.q.2 < 65536 ∧ R.m.1 < 256 ∧ R.m.2 < 256 ∧ I64 R.i ∧ I64 R.sl ∧ I64 R.dl ∧ I64 R.act
def errI (i : Int) : Int := if 1 ≤ i ∧ i ≤ 999999 then 0 else 80
def errA (a : Int) : Int := if 1 ≤ a ∧ a ≤ 4 then 0 else 81
def errS (a b : Nat) : Int := if b < a then 30 else 0
/-- The first that is not nought, and its number. -/
def firstE : List Int → Int → Int × Int
  | [], _ => (0, 0)
  | e :: l, k => if e = 0 then firstE l (k + 1) else (e, k)
def errs (R : Ru) : Int × Int := firstE [errI R.i, Pf.chk R.s R.sl, Pf.chk R.d R.dl, errS R.p.1 R.p.2, errS R.q.1 R.q.2, chk R.m.1 R.m.2, errA R.act] 1
theorem errI_ok (i : Int) : errI i = 0 ↔ 1 ≤ i ∧ i ≤ 999999 := by unfold errI; split <;> simp_all
theorem errA_ok (i : Int) : errA i = 0 ↔ 1 ≤ i ∧ i ≤ 4 := by unfold errA; split <;> simp_all
theorem errS_ok (s : Nat × Nat) : errS s.1 s.2 = 0 ↔ okI s = true := by
  unfold errS okI
  split
  · rw [decide_eq_false (by omega)]; simp
  · rw [decide_eq_true (by omega)]; simp
theorem chkm_ok (v c : Nat) : chk v c = 0 ↔ okM v c = true := by
  unfold chk; cases okM v c <;> simp
theorem firstE_ok : ∀ (l : List Int) (k : Int), (firstE l k).1 = 0 ↔ ∀ e ∈ l, e = 0
  | [], k => by simp [firstE]
  | e :: l, k => by
    unfold firstE
    by_cases h : e = 0
    · rw [if_pos h, firstE_ok l (k + 1)]; simp [h]
    · rw [if_neg h]; simp [h]
theorem okR_err (R : Ru) : okR R = true ↔ (errs R).1 = 0 := by
  unfold errs
  rw [firstE_ok, okR_iff]
  simp only [List.mem_cons, List.not_mem_nil, or_false, forall_eq_or_imp, forall_eq, errI_ok, errA_ok, errS_ok, chkm_ok]
theorem firstE_at (l : List Int) : ∀ k : Int, (firstE l k).1 = 0 → (firstE l k).2 = 0 := by
  induction l with
  | nil => intro k _; rfl
  | cons e l ih =>
    intro k
    unfold firstE
    by_cases h : e = 0
    · rw [if_pos h]; exact ih (k + 1)
    · rw [if_neg h]; intro h'; exact absurd h' h
theorem errs_ok {R : Ru} (h : okR R = true) : errs R = (0, 0) := Prod.ext ((okR_err R).1 h) (firstE_at _ _ ((okR_err R).1 h))
theorem errs_no {R : Ru} (h : okR R = false) : (errs R).1 ≠ 0 := fun e => by rw [(okR_err R).2 e] at h; cases h
def matchR (R : Ru) (x : Hd) : Bool := okR R && (Pf.hasB R.s R.sl x.s && Pf.hasB R.d R.dl x.d && hasI R.p x.p && hasI R.q x.q && hasM R.m.1 R.m.2 x.r)
def allR (i a : Int) : Ru := ⟨i, 0, 0, 0, 0, (0, 65535), (0, 65535), (0, 0), a⟩
theorem match_in {R : Ru} (h : okR R = true) (x : Hd) : matchR R x = (Pf.hasB R.s R.sl x.s && Pf.hasB R.d R.dl x.d && hasI R.p x.p && hasI R.q x.q && hasM R.m.1 R.m.2 x.r) := by
  unfold matchR; rw [h, Bool.true_and]
theorem allR_ok (i a : Int) : okR (allR i a) = decide (1 ≤ i ∧ i ≤ 999999 ∧ 1 ≤ a ∧ a ≤ 4) := by
  rw [Bool.eq_iff_iff, okR_iff, decide_eq_true_eq]
  have h1 : Pf.chk 0 0 = 0 := by decide
  have h2 : okI (0, 65535) = true := by decide
  have h3 : okM 0 0 = true := by decide
  simp only [allR, h1, h2, h3, true_and]
  constructor
  · rintro ⟨⟨a1, a2⟩, a3, a4⟩; exact ⟨a1, a2, a3, a4⟩
  · rintro ⟨a1, a2, a3, a4⟩; exact ⟨⟨a1, a2⟩, a3, a4⟩
end Go.Proofs.Ytfpmljgmfapoiaa
/-
  Rules in an order: the place of an id, the first match, what may join, what is put in, taken out, moved. No program is named here.
-/
namespace Go.Proofs.Ytfpmljgmfapoiaa
set_option linter.unusedVariables false

/-- The place of an id, from a place on; -1: none. -/
def fndK (id : Int) : List Ru → Nat → Int
  | [], _ => -1
  | R :: l, k => if R.i = id then (k : Int) else fndK id l (k + 1)
def fnd (l : List Ru) (id : Int) : Int := fndK id l 0
theorem drop_cons {α : Type} {l : List α} {k : Nat} (h : k < l.length) : l.drop k = l[k] :: l.drop (k + 1) := List.drop_eq_getElem_cons h
theorem fndK_hit {l : List Ru} {k : Nat} {id : Int} (h : k < l.length) (e : (l[k]'h).i = id) : fndK id (l.drop k) k = (k : Int) := by
  rw [drop_cons h, fndK, if_pos e]
theorem fndK_no {l : List Ru} {k : Nat} {id : Int} (h : k < l.length) (e : ¬ (l[k]'h).i = id) : fndK id (l.drop k) k = fndK id (l.drop (k + 1)) (k + 1) := by
  rw [drop_cons h, fndK, if_neg e]
theorem fndK_end {l : List Ru} {k : Nat} {id : Int} (h : l.length ≤ k) : fndK id (l.drop k) k = -1 := by
  rw [List.drop_eq_nil_of_le h, fndK]
theorem fndK_range (id : Int) : ∀ (l : List Ru) (k : Nat), fndK id l k = -1 ∨ ((k : Int) ≤ fndK id l k ∧ fndK id l k < k + l.length)
  | [], k => .inl rfl
  | R :: l, k => by
    unfold fndK
    split
    · right; simp only [List.length_cons]; omega
    · have := fndK_range id l (k + 1)
      simp only [List.length_cons]
      omega
theorem fnd_range (l : List Ru) (id : Int) : fnd l id = -1 ∨ (0 ≤ fnd l id ∧ fnd l id < l.length) := by
  have := fndK_range id l 0
  unfold fnd
  omega
theorem fndK_none {id : Int} : ∀ (l : List Ru) (k : Nat), fndK id l k = -1 ↔ ∀ R ∈ l, R.i ≠ id
  | [], k => by simp [fndK]
  | R :: l, k => by
    unfold fndK
    have ih := fndK_none (id := id) l (k + 1)
    by_cases h : R.i = id
    · rw [if_pos h]; simp [h]
    · rw [if_neg h, ih]; simp [h]
theorem fnd_none {l : List Ru} {id : Int} : fnd l id = -1 ↔ ∀ R ∈ l, R.i ≠ id := fndK_none l 0
theorem fndK_at {id : Int} : ∀ (l : List Ru) (b k : Nat) (h : k < l.length), (l[k]'h).i = id → (∀ j (hj : j < k), (l[j]'(by omega)).i ≠ id) → fndK id l b = ((b + k : Nat) : Int)
  | R :: l, b, 0, h, e, hn => by
    unfold fndK; rw [if_pos (by simpa using e)]; rfl
  | R :: l, b, k + 1, h, e, hn => by
    unfold fndK
    rw [if_neg (by simpa using hn 0 (by omega)), fndK_at l (b + 1) k (by simpa using h) (by simpa using e) (fun j hj => by simpa using hn (j + 1) (by omega))]
    congr 1; omega
theorem fnd_get {l : List Ru} {id : Int} {k : Nat} (h : fnd l id = (k : Int)) : ∃ hk : k < l.length, (l[k]'hk).i = id := by
  have gen : ∀ (l : List Ru) (b : Nat), fndK id l b ≠ -1 → ∃ j, ∃ hj : j < l.length, (l[j]'hj).i = id ∧ fndK id l b = ((b + j : Nat) : Int) := by
    intro l
    induction l with
    | nil => intro b hb; exact absurd rfl hb
    | cons R l ih =>
      intro b hb
      unfold fndK at hb ⊢
      by_cases h : R.i = id
      · rw [if_pos h]; exact ⟨0, by simp, by simpa using h, rfl⟩
      · rw [if_neg h] at hb ⊢
        obtain ⟨j, hj, e1, e2⟩ := ih (b + 1) hb
        exact ⟨j + 1, by simpa using hj, by simpa using e1, by rw [e2]; congr 1; omega⟩
  obtain ⟨j, hj, e1, e2⟩ := gen l 0 (by unfold fnd at h; omega)
  have : j = k := by unfold fnd at h; omega
  subst this
  exact ⟨hj, e1⟩
/-- The first match, from a place on; -1: none. -/
def matK (h : Hd) : List Ru → Nat → Int
  | [], _ => -1
  | R :: l, k => if matchR R h = true then (k : Int) else matK h l (k + 1)
def mat (l : List Ru) (h : Hd) : Int := matK h l 0
theorem matK_hit {l : List Ru} {k : Nat} {h : Hd} (hk : k < l.length) (e : matchR (l[k]'hk) h = true) : matK h (l.drop k) k = (k : Int) := by
  rw [drop_cons hk, matK, if_pos e]
theorem matK_no {l : List Ru} {k : Nat} {h : Hd} (hk : k < l.length) (e : matchR (l[k]'hk) h = false) : matK h (l.drop k) k = matK h (l.drop (k + 1)) (k + 1) := by
  rw [drop_cons hk, matK, if_neg (by simp [e])]
theorem matK_end {l : List Ru} {k : Nat} {h : Hd} (hk : l.length ≤ k) : matK h (l.drop k) k = -1 := by
  rw [List.drop_eq_nil_of_le hk, matK]
/-- The verdict of a place: hit, id, action. -/
def vdH (k : Int) : Bool := decide (0 ≤ k)
def vdI (l : List Ru) (k : Int) : Int := if 0 ≤ k then (l.getD k.toNat ⟨0, 0, 0, 0, 0, (0, 0), (0, 0), (0, 0), 0⟩).i else 0
def vdA (A : Int) (l : List Ru) (k : Int) : Int := if 0 ≤ k then (l.getD k.toNat ⟨0, 0, 0, 0, 0, (0, 0), (0, 0), (0, 0), 0⟩).act else A
theorem getD_at {l : List Ru} {k : Nat} (h : k < l.length) (z : Ru) : l.getD k z = l[k] := by simp [h]
theorem vdI_at {l : List Ru} {k : Nat} (h : k < l.length) : vdI l (k : Int) = (l[k]'h).i := by unfold vdI; rw [if_pos (by omega), Int.toNat_natCast, getD_at h]
theorem vdA_at {A : Int} {l : List Ru} {k : Nat} (h : k < l.length) : vdA A l (k : Int) = (l[k]'h).act := by unfold vdA; rw [if_pos (by omega), Int.toNat_natCast, getD_at h]
/-- Why a rule may not stand in one list with others. -/
def joinE (l : List Ru) (R : Ru) : Int := if (errs R).1 = 0 then (if 0 ≤ fnd l R.i then 111 else 0) else (errs R).1
def insE (l : List Ru) (M p : Int) (R : Ru) : Int := if joinE l R = 0 then (if 0 ≤ p ∧ p ≤ l.length then (if M ≤ l.length then 113 else 0) else 112) else joinE l R
def putL (l : List Ru) (p : Nat) (R : Ru) : List Ru := l.take p ++ R :: l.drop p
def insL (l : List Ru) (M p : Int) (R : Ru) : List Ru := if insE l M p R = 0 then putL l p.toNat R else l
def delE (l : List Ru) (id : Int) : Int := if 0 ≤ fnd l id then 0 else 114
def outL (l : List Ru) (k : Nat) : List Ru := l.take k ++ l.drop (k + 1)
def delL (l : List Ru) (id : Int) : List Ru := if 0 ≤ fnd l id then outL l (fnd l id).toNat else l
def setK (M : Int) : List Ru → List Ru → Int
  | _, [] => 0
  | pre, R :: t => if joinE pre R = 0 then (if M ≤ pre.length then 113 else setK M (pre ++ [R]) t) else joinE pre R
def setE (l : List Ru) (M : Int) : Int := setK M [] l
theorem take_snoc {l : List Ru} {k : Nat} (h : k < l.length) : l.take k ++ [l[k]] = l.take (k + 1) := by rw [List.take_succ_eq_append_getElem h]
theorem setK_bad {l : List Ru} {M : Int} {k : Nat} (h : k < l.length) (e : joinE (l.take k) l[k] ≠ 0) : setK M (l.take k) (l.drop k) = joinE (l.take k) l[k] := by
  rw [drop_cons h, setK, if_neg e]
theorem setK_full {l : List Ru} {M : Int} {k : Nat} (h : k < l.length) (e : joinE (l.take k) l[k] = 0) (hm : M ≤ (k : Int)) : setK M (l.take k) (l.drop k) = 113 := by
  rw [drop_cons h, setK, if_pos e, if_pos (by rw [List.length_take]; omega)]
theorem setK_next {l : List Ru} {M : Int} {k : Nat} (h : k < l.length) (e : joinE (l.take k) l[k] = 0) (hm : (k : Int) < M) : setK M (l.take k) (l.drop k) = setK M (l.take (k + 1)) (l.drop (k + 1)) := by
  rw [drop_cons h, setK, if_pos e, if_neg (by rw [List.length_take]; omega), take_snoc h]
theorem setK_end {l : List Ru} {M : Int} {k : Nat} (h : l.length ≤ k) : setK M (l.take k) (l.drop k) = 0 := by
  rw [List.drop_eq_nil_of_le h, setK]
theorem joinE_ok {l : List Ru} {R : Ru} : joinE l R = 0 ↔ (errs R).1 = 0 ∧ fnd l R.i = -1 := by
  unfold joinE
  have := fnd_range l R.i
  by_cases h : (errs R).1 = 0
  · rw [if_pos h]
    by_cases h2 : 0 ≤ fnd l R.i
    · rw [if_pos h2]; simp; omega
    · rw [if_neg h2]; simp; exact ⟨h, by omega⟩
  · rw [if_neg h]; simp [h]
/-- A list that may be: each rule may be, no id twice, no more than may be. -/
structure OkL (M : Int) (l : List Ru) : Prop where
  may : ∀ k (h : k < l.length), okR (l[k]'h) = true
  one : ∀ k (h : k < l.length), fnd (l.take k) (l[k]'h).i = -1
  few : l = [] ∨ (l.length : Int) ≤ M
theorem setK_ok (M : Int) : ∀ (t pre : List Ru), setK M pre t = 0 → ∀ k (h : k < t.length), okR (t[k]'h) = true ∧ fnd (pre ++ t.take k) (t[k]'h).i = -1 ∧ ((pre.length + k : Nat) : Int) < M
  | [], pre, _, k, h => by simp at h
  | R :: t, pre, e, k, h => by
    unfold setK at e
    by_cases h1 : joinE pre R = 0
    · rw [if_pos h1] at e
      by_cases h2 : M ≤ pre.length
      · rw [if_pos h2] at e; exact absurd e (by decide)
      · rw [if_neg h2] at e
        cases k with
        | zero =>
          obtain ⟨j1, j2⟩ := joinE_ok.1 h1
          exact ⟨(okR_err R).2 j1, by simpa using j2, by simp; omega⟩
        | succ k =>
          have ih := setK_ok M t (pre ++ [R]) e k (by simpa using h)
          simp only [List.length_append, List.length_cons, List.length_nil, List.append_assoc, List.singleton_append] at ih
          exact ⟨by simpa using ih.1, by simpa using ih.2.1, by have := ih.2.2; omega⟩
    · rw [if_neg h1] at e; exact absurd e h1
theorem setE_ok {l : List Ru} {M : Int} (h : setE l M = 0) : OkL M l := by
  have := setK_ok M l [] h
  refine ⟨fun k hk => (this k hk).1, fun k hk => by simpa using (this k hk).2.1, ?_⟩
  cases l with
  | nil => exact .inl rfl
  | cons R t => right; have := (this t.length (by simp)).2.2; simp at this ⊢; omega
/-- Ids are different at different places. -/
theorem OkL.ne {M : Int} {l : List Ru} (o : OkL M l) {j k : Nat} (hj : j < k) (hk : k < l.length) : (l[j]'(by omega)).i ≠ (l[k]'hk).i := by
  have := (fnd_none.1 (o.one k hk)) (l[j]'(by omega)) (by
    rw [List.mem_take_iff_getElem]
    exact ⟨j, by omega, rfl⟩)
  exact this
theorem OkL.fnd {M : Int} {l : List Ru} (o : OkL M l) {k : Nat} (hk : k < l.length) : fnd l (l[k]'hk).i = (k : Int) := by
  have := fndK_at (id := (l[k]'hk).i) l 0 k hk rfl (fun j hj => o.ne hj hk)
  unfold Go.Proofs.Ytfpmljgmfapoiaa.fnd
  rw [this, Nat.zero_add]
theorem OkL.gone {M : Int} {l : List Ru} (o : OkL M l) {k : Nat} (hk : k < l.length) : Go.Proofs.Ytfpmljgmfapoiaa.fnd (outL l k) (l[k]'hk).i = -1 := by
  rw [fnd_none]
  intro R hR
  unfold outL at hR
  rw [List.mem_append] at hR
  rcases hR with hR | hR
  · rw [List.mem_take_iff_getElem] at hR
    obtain ⟨j, hj, rfl⟩ := hR
    exact o.ne (by omega) hk
  · rw [List.mem_drop_iff_getElem] at hR
    obtain ⟨j, hj, rfl⟩ := hR
    exact fun e => o.ne (j := k) (k := k + 1 + j) (by omega) (by omega) (by simpa [Nat.add_comm, Nat.add_left_comm, Nat.add_assoc] using e.symm)
end Go.Proofs.Ytfpmljgmfapoiaa
/-
  The fewest stems of a set of ports: plain mathematics, no program is named here. 'ah': how many of the set lie below a place; 'tl': the document's way, by halves; 'Tiles': any way that goes up from place to place and takes at each place of the set the greatest stem that begins there: both tell one list.
-/
namespace Go.Proofs.Ytfpmljgmfapoiaa.Xp
open Go.RowKit
set_option linter.unusedVariables false

/-- How many of the set lie below i. -/
def ah (p : Nat → Bool) : Nat → Nat
  | 0 => 0
  | i + 1 => ah p i + if p i then 1 else 0
def full (p : Nat → Bool) (a n : Nat) : Prop := ∀ i, a ≤ i → i < a + n → p i = true
def bare (p : Nat → Bool) (a n : Nat) : Prop := ∀ i, a ≤ i → i < a + n → p i = false
theorem ah_step (p : Nat → Bool) (a n : Nat) : ah p (a + (n + 1)) = ah p (a + n) + if p (a + n) then 1 else 0 := rfl
theorem ah_bd (p : Nat → Bool) (a : Nat) : ∀ n, ah p a ≤ ah p (a + n) ∧ ah p (a + n) ≤ ah p a + n
  | 0 => ⟨Nat.le_refl _, Nat.le_refl _⟩
  | n + 1 => by
    have := ah_bd p a n
    rw [ah_step]
    split <;> omega
theorem ah_full (p : Nat → Bool) (a : Nat) : ∀ n, ah p (a + n) = ah p a + n ↔ full p a n
  | 0 => ⟨fun _ i h1 h2 => by omega, fun _ => rfl⟩
  | n + 1 => by
    have ih := ah_full p a n
    have bd := ah_bd p a n
    rw [ah_step]
    constructor
    · intro h
      have h1 : p (a + n) = true := by
        cases hp : p (a + n)
        · rw [hp] at h; simp at h; omega
        · rfl
      rw [h1] at h
      simp at h
      have h2 := ih.1 (by omega)
      intro i hi1 hi2
      by_cases e : i = a + n
      · subst e; exact h1
      · exact h2 i hi1 (by omega)
    · intro h
      rw [h (a + n) (by omega) (by omega), ih.2 fun i h1 h2 => h i h1 (by omega)]
      simp; omega
theorem ah_bare (p : Nat → Bool) (a : Nat) : ∀ n, ah p (a + n) = ah p a ↔ bare p a n
  | 0 => ⟨fun _ i h1 h2 => by omega, fun _ => rfl⟩
  | n + 1 => by
    have ih := ah_bare p a n
    have bd := ah_bd p a n
    rw [ah_step]
    constructor
    · intro h
      have h1 : p (a + n) = false := by
        cases hp : p (a + n)
        · rfl
        · rw [hp] at h; simp at h; omega
      rw [h1] at h
      simp at h
      have h2 := ih.1 (by omega)
      intro i hi1 hi2
      by_cases e : i = a + n
      · subst e; exact h1
      · exact h2 i hi1 (by omega)
    · intro h
      rw [h (a + n) (by omega) (by omega), ih.2 fun i h1 h2 => h i h1 (by omega)]
      simp
/-- The document's way: f is 16 less the stem's length. -/
def tl (p : Nat → Bool) : Nat → Nat → List (Nat × Nat)
  | 0, a => if ah p (a + 1) - ah p a = 1 then [(a, 16)] else []
  | f + 1, a => if ah p (a + 2 ^ (f + 1)) - ah p a = 2 ^ (f + 1) then [(a, 15 - f)] else if ah p (a + 2 ^ (f + 1)) - ah p a = 0 then [] else tl p f a ++ tl p f (a + 2 ^ f)
theorem tl_full {p : Nat → Bool} {f a : Nat} (h : full p a (2 ^ f)) : tl p f a = [(a, 16 - f)] := by
  have e := (ah_full p a (2 ^ f)).2 h
  cases f with
  | zero => unfold tl; rw [Nat.pow_zero] at e; rw [e, if_pos (by omega)]
  | succ f => unfold tl; rw [e, if_pos (Nat.add_sub_cancel_left ..), show 16 - (f + 1) = 15 - f by omega]
theorem tl_bare {p : Nat → Bool} {f a : Nat} (h : bare p a (2 ^ f)) : tl p f a = [] := by
  have e := (ah_bare p a (2 ^ f)).2 h
  have hp : 0 < 2 ^ f := Nat.pow_pos (by decide)
  cases f with
  | zero => unfold tl; rw [Nat.pow_zero] at e; rw [e, if_neg (by omega)]
  | succ f =>
    unfold tl
    rw [e]
    generalize 2 ^ (f + 1) = z at hp
    rw [if_neg (by omega), if_pos (by omega)]
theorem tl_halves {p : Nat → Bool} {f a : Nat} (h1 : ¬ full p a (2 ^ (f + 1))) (h2 : ¬ bare p a (2 ^ (f + 1))) : tl p (f + 1) a = tl p f a ++ tl p f (a + 2 ^ f) := by
  rw [← ah_full] at h1
  rw [← ah_bare] at h2
  have bd := ah_bd p a (2 ^ (f + 1))
  have h3 : ¬ ah p (a + 2 ^ (f + 1)) - ah p a = 2 ^ (f + 1) := by omega
  have h4 : ¬ ah p (a + 2 ^ (f + 1)) - ah p a = 0 := by omega
  show (if _ then _ else if _ then _ else _) = _
  rw [if_neg h3, if_neg h4]
/-- The greatest stem that begins at a. -/
structure IsMax (p : Nat → Bool) (a f : Nat) : Prop where
  le : f ≤ 16
  dvd : 2 ^ f ∣ a
  all : full p a (2 ^ f)
  max : ¬ (f < 16 ∧ 2 ^ (f + 1) ∣ a ∧ full p a (2 ^ (f + 1)))
def TilesF (p : Nat → Bool) (b : Nat) : Nat → Nat → List (Nat × Nat) → Prop
  | 0, a, l => a = b ∧ l = []
  | n + 1, a, l => (a < b ∧ p a = false ∧ TilesF p b n (a + 1) l) ∨ ∃ f l2, l = (a, 16 - f) :: l2 ∧ IsMax p a f ∧ a + 2 ^ f ≤ b ∧ TilesF p b n (a + 2 ^ f) l2
/-- From a up to b, by steps that pass over a place outside the set or take the greatest stem: the stems that are taken. -/
def Tiles (p : Nat → Bool) (a b : Nat) (l : List (Nat × Nat)) : Prop := ∃ n, TilesF p b n a l
theorem Tiles.done {p : Nat → Bool} (b : Nat) : Tiles p b b [] := ⟨0, rfl, rfl⟩
theorem Tiles.skip {p : Nat → Bool} {a b : Nat} {l : List (Nat × Nat)} (hlt : a < b) (hp : p a = false) (h : Tiles p (a + 1) b l) : Tiles p a b l := by
  obtain ⟨n, h⟩ := h
  exact ⟨n + 1, .inl ⟨hlt, hp, h⟩⟩
theorem Tiles.take {p : Nat → Bool} {a b f : Nat} {l : List (Nat × Nat)} (hm : IsMax p a f) (hle : a + 2 ^ f ≤ b) (h : Tiles p (a + 2 ^ f) b l) : Tiles p a b ((a, 16 - f) :: l) := by
  obtain ⟨n, h⟩ := h
  exact ⟨n + 1, .inr ⟨f, l, rfl, hm, hle, h⟩⟩
theorem Tiles.inv {p : Nat → Bool} {a b : Nat} {l : List (Nat × Nat)} (h : Tiles p a b l) : (a = b ∧ l = []) ∨ (a < b ∧ p a = false ∧ Tiles p (a + 1) b l) ∨ ∃ f l2, l = (a, 16 - f) :: l2 ∧ IsMax p a f ∧ a + 2 ^ f ≤ b ∧ Tiles p (a + 2 ^ f) b l2 := by
  obtain ⟨n, h⟩ := h
  cases n with
  | zero => exact .inl h
  | succ n =>
    rcases h with ⟨h1, h2, h3⟩ | ⟨f, l2, h1, h2, h3, h4⟩
    · exact .inr (.inl ⟨h1, h2, n, h3⟩)
    · exact .inr (.inr ⟨f, l2, h1, h2, h3, n, h4⟩)
theorem Tiles.end {p : Nat → Bool} {b : Nat} {l : List (Nat × Nat)} (h : Tiles p b b l) : l = [] := by
  rcases h.inv with ⟨_, h⟩ | ⟨h, _, _⟩ | ⟨f, l2, _, hm, hle, _⟩
  · exact h
  · omega
  · have : 0 < 2 ^ f := Nat.pow_pos (by decide)
    omega
theorem Tiles.skips {p : Nat → Bool} {b : Nat} {l : List (Nat × Nat)} : ∀ (n a : Nat), bare p a n → a + n ≤ b → (Tiles p a b l ↔ Tiles p (a + n) b l)
  | 0, a, _, _ => Iff.rfl
  | n + 1, a, h, hb => by
    have ha := h a (Nat.le_refl _) (by omega)
    have ih := Tiles.skips (b := b) (l := l) n (a + 1) (fun i h1 h2 => h i (by omega) (by omega)) (by omega)
    rw [show a + (n + 1) = a + 1 + n by omega, ← ih]
    constructor
    · intro ht
      rcases ht.inv with ⟨h3, _⟩ | ⟨_, _, h3⟩ | ⟨f, l2, _, hm, hle, h4⟩
      · omega
      · exact h3
      · have hp0 : 0 < 2 ^ f := Nat.pow_pos (by decide)
        have := hm.all a (Nat.le_refl _) (by omega)
        rw [ha] at this; cases this
    · exact fun ht => .skip (by omega) ha ht
theorem pow_dvd_le {f g : Nat} (h : f ≤ g) : 2 ^ f ∣ 2 ^ g := ⟨2 ^ (g - f), by rw [← Nat.pow_add]; congr 1; omega⟩
theorem pow_le {f g : Nat} (h : f ≤ g) : 2 ^ f ≤ 2 ^ g := Nat.pow_le_pow_right (by decide) h
theorem full_le {p : Nat → Bool} {a n m : Nat} (h : full p a n) (hm : m ≤ n) : full p a m := fun i h1 h2 => h i h1 (by omega)
/-- No greater stem of the set holds the block. -/
def free (p : Nat → Bool) (f a : Nat) : Prop := f = 16 ∨ ¬ full p (a / 2 ^ (f + 1) * 2 ^ (f + 1)) (2 ^ (f + 1))
theorem Tiles.block {p : Nat → Bool} {b : Nat} : ∀ (f a : Nat) (l : List (Nat × Nat)), f ≤ 16 → 2 ^ f ∣ a → a + 2 ^ f ≤ b → free p f a → Tiles p a b l → ∃ l', l = tl p f a ++ l' ∧ Tiles p (a + 2 ^ f) b l' := by
  intro f
  induction f with
  | zero =>
    intro a l hf hd hb hfr ht
    cases hp : p a
    · have hbr : bare p a (2 ^ 0) := fun i h1 h2 => by
        have e : i = a := by rw [Nat.pow_zero] at h2; omega
        rw [e]; exact hp
      exact ⟨l, by rw [tl_bare hbr]; rfl, (Tiles.skips (2 ^ 0) a hbr hb).1 ht⟩
    · have hfl : full p a (2 ^ 0) := fun i h1 h2 => by
        have e : i = a := by rw [Nat.pow_zero] at h2; omega
        rw [e]; exact hp
      rw [tl_full hfl]
      rcases ht.inv with ⟨h2, _⟩ | ⟨_, h2, _⟩ | ⟨g, l2, hl2, hm, hle, h3⟩
      · omega
      · rw [hp] at h2; cases h2
      · have hg : g = 0 := by
          cases g with
          | zero => rfl
          | succ g =>
            exfalso
            have d1 : 2 ^ (0 + 1) ∣ a := Nat.dvd_trans (pow_dvd_le (by omega)) hm.dvd
            rcases hfr with e | e
            · cases e
            · apply e
              rw [Nat.div_mul_cancel d1]
              exact full_le hm.all (pow_le (by omega))
        subst hg
        exact ⟨l2, by rw [hl2]; rfl, h3⟩
  | succ f ih =>
    intro a l hf hd hb hfr ht
    have hpos : 0 < 2 ^ (f + 1) := Nat.pow_pos (by decide)
    have hdbl : 2 ^ (f + 1) = 2 ^ f + 2 ^ f := by rw [Nat.pow_succ]; omega
    by_cases h1 : full p a (2 ^ (f + 1))
    · rw [tl_full h1]
      rcases ht.inv with ⟨h2, _⟩ | ⟨_, h2, _⟩ | ⟨g, l2, hl2, hm, hle, h3⟩
      · omega
      · rw [h1 a (Nat.le_refl _) (by omega)] at h2; cases h2
      · have hg : g = f + 1 := by
          rcases Nat.lt_trichotomy g (f + 1) with h | h | h
          · exact absurd ⟨by omega, Nat.dvd_trans (pow_dvd_le (by omega)) hd, full_le h1 (pow_le (by omega))⟩ hm.max
          · exact h
          · exfalso
            have d1 : 2 ^ (f + 1 + 1) ∣ a := Nat.dvd_trans (pow_dvd_le (by omega)) hm.dvd
            rcases hfr with e | e
            · have := hm.le; omega
            · apply e
              rw [Nat.div_mul_cancel d1]
              exact full_le hm.all (pow_le (by omega))
        subst hg
        exact ⟨l2, by rw [hl2]; rfl, h3⟩
    · by_cases h2 : bare p a (2 ^ (f + 1))
      · exact ⟨l, by rw [tl_bare h2]; rfl, (Tiles.skips _ a h2 hb).1 ht⟩
      · rw [tl_halves h1 h2]
        have hdf : 2 ^ f ∣ a := Nat.dvd_trans (pow_dvd_le (by omega)) hd
        obtain ⟨l1, e1, t1⟩ := ih a l (by omega) hdf (by omega) (.inr (by rw [Nat.div_mul_cancel hd]; exact h1)) ht
        have e3 : (a + 2 ^ f) / 2 ^ (f + 1) * 2 ^ (f + 1) = a := by
          obtain ⟨q, rfl⟩ := hd
          have hp2 : 0 < 2 ^ f := Nat.pow_pos (by decide)
          rw [Nat.mul_add_div hpos, Nat.div_eq_of_lt (by omega), Nat.add_zero, Nat.mul_comm]
        obtain ⟨l2, e2, t2⟩ := ih (a + 2 ^ f) l1 (by omega) (Nat.dvd_add hdf (Nat.dvd_refl _)) (by omega) (.inr (by rw [e3]; exact h1)) t1
        refine ⟨l2, by rw [e1, e2, List.append_assoc], ?_⟩
        rw [show a + 2 ^ (f + 1) = a + 2 ^ f + 2 ^ f by omega]
        exact t2
/-- Whoever goes up and takes the greatest one each time tells the document's list. -/
theorem Tiles.is {p : Nat → Bool} {l : List (Nat × Nat)} (h : Tiles p 0 65536 l) : l = tl p 16 0 := by
  obtain ⟨l', e, t⟩ := Tiles.block 16 0 l (Nat.le_refl _) (Nat.dvd_zero _) (by decide) (.inl rfl) h
  have := Tiles.end (b := 65536) (l := l') t
  rw [e, this, List.append_nil]
end Go.Proofs.Ytfpmljgmfapoiaa.Xp
