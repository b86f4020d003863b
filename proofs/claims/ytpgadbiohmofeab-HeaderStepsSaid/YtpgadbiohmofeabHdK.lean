/-
  What the functions of header are to hand back, each as a proposition of its own (proved of the code elsewhere).
-/
import Derived.Test.YtpgadbiohmofeabHdRe
namespace Go.Proofs.Ytpgadbiohmofeab
open Go.RowKit
set_option linter.unusedVariables false

def PackC : Prop := ∀ (h : Hd) (w : World), OkH h →
    Calls Try.prog 5 #[.agg #[.int .u32 (h.s : Int), .int .u32 (h.d : Int), .int .u16 (h.p : Int), .int .u16 (h.q : Int), .int .u8 (h.r : Int)]] w fun e w' => ∃ v' : Value, e = .returned v' ∧ RowB w' w.heap.size v' (bytesH h) ∧ Below w.heap.size w w'
def UnpN : Prop := ∀ (l : List Nat) (v : Value) (w : World), SrcB w v l → l.length ≠ 13 → l.length ≤ 16777216 →
    Calls Try.prog 15 #[v] w fun e w' => e = .returned (.tuple #[.agg #[.int .u32 (h0.s : Int), .int .u32 (h0.d : Int), .int .u16 (h0.p : Int), .int .u16 (h0.q : Int), .int .u8 (h0.r : Int)], .int .i64 60]) ∧ Below w.heap.size w w'
def UnpC : Prop := ∀ (l : List Nat) (v : Value) (w : World), SrcB w v l → l.length = 13 → BdB l →
    Calls Try.prog 15 #[v] w fun e w' => e = .returned (.tuple #[.agg #[.int .u32 ((hdB l).s : Int), .int .u32 ((hdB l).d : Int), .int .u16 ((hdB l).p : Int), .int .u16 ((hdB l).q : Int), .int .u8 ((hdB l).r : Int)], .int .i64 0]) ∧ Below w.heap.size w w'
def BitN : Prop := ∀ (h : Hd) (i : Int) (w : World), OkH h → i < 0 ∨ 103 < i →
    Calls Try.prog 9 #[.agg #[.int .u32 (h.s : Int), .int .u32 (h.d : Int), .int .u16 (h.p : Int), .int .u16 (h.q : Int), .int .u8 (h.r : Int)], .int .i64 i] w fun e w' => e = .returned (.tuple #[.int .i64 0, .int .i64 1]) ∧ Below w.heap.size w w'
def BitC : Prop := ∀ (h : Hd) (i : Nat) (w : World), OkH h → i < 104 →
    Calls Try.prog 9 #[.agg #[.int .u32 (h.s : Int), .int .u32 (h.d : Int), .int .u16 (h.p : Int), .int .u16 (h.q : Int), .int .u8 (h.r : Int)], .int .i64 (i : Int)] w fun e w' => e = .returned (.tuple #[.int .i64 (bitH h i : Int), .int .i64 0]) ∧ Below w.heap.size w w'
def TrnN : Prop := ∀ (h : Hd) (i : Int) (w : World), OkH h → i < 0 ∨ 103 < i →
    Calls Try.prog 10 #[.agg #[.int .u32 (h.s : Int), .int .u32 (h.d : Int), .int .u16 (h.p : Int), .int .u16 (h.q : Int), .int .u8 (h.r : Int)], .int .i64 i] w fun e w' => e = .returned (.tuple #[.agg #[.int .u32 (h0.s : Int), .int .u32 (h0.d : Int), .int .u16 (h0.p : Int), .int .u16 (h0.q : Int), .int .u8 (h0.r : Int)], .int .i64 1]) ∧ Below w.heap.size w w'
def TrnC : Prop := ∀ (h : Hd) (i : Nat) (w : World), OkH h → i < 104 →
    Calls Try.prog 10 #[.agg #[.int .u32 (h.s : Int), .int .u32 (h.d : Int), .int .u16 (h.p : Int), .int .u16 (h.q : Int), .int .u8 (h.r : Int)], .int .i64 (i : Int)] w fun e w' => e = .returned (.tuple #[.agg #[.int .u32 ((turnH h i).s : Int), .int .u32 ((turnH h i).d : Int), .int .u16 ((turnH h i).p : Int), .int .u16 ((turnH h i).q : Int), .int .u8 ((turnH h i).r : Int)], .int .i64 0]) ∧ Below w.heap.size w w'
def CmpC : Prop := ∀ (a b : Hd) (w : World), OkH a → OkH b →
    Calls Try.prog 6 #[.agg #[.int .u32 (a.s : Int), .int .u32 (a.d : Int), .int .u16 (a.p : Int), .int .u16 (a.q : Int), .int .u8 (a.r : Int)], .agg #[.int .u32 (b.s : Int), .int .u32 (b.d : Int), .int .u16 (b.p : Int), .int .u16 (b.q : Int), .int .u8 (b.r : Int)]] w fun e w' => e = .returned (.int .i64 (cmpH a b)) ∧ Below w.heap.size w w'
def NxtC : Prop := ∀ (h : Hd) (w : World), OkH h →
    Calls Try.prog 11 #[.agg #[.int .u32 (h.s : Int), .int .u32 (h.d : Int), .int .u16 (h.p : Int), .int .u16 (h.q : Int), .int .u8 (h.r : Int)]] w fun e w' => e = .returned (.tuple #[.agg #[.int .u32 ((nxt h).s : Int), .int .u32 ((nxt h).d : Int), .int .u16 ((nxt h).p : Int), .int .u16 ((nxt h).q : Int), .int .u8 ((nxt h).r : Int)], .bool (hasN h)]) ∧ Below w.heap.size w w'
def DifC : Prop := ∀ (a b : Hd) (w : World), OkH a → OkH b →
    Calls Try.prog 7 #[.agg #[.int .u32 (a.s : Int), .int .u32 (a.d : Int), .int .u16 (a.p : Int), .int .u16 (a.q : Int), .int .u8 (a.r : Int)], .agg #[.int .u32 (b.s : Int), .int .u32 (b.d : Int), .int .u16 (b.p : Int), .int .u16 (b.q : Int), .int .u8 (b.r : Int)]] w fun e w' => e = .returned (.int .i64 (difH a b)) ∧ Below w.heap.size w w'
def OfN : Prop := ∀ (l : List Nat) (v : Value) (w : World), SrcW w v l → l.length ≠ 5 → l.length ≤ 16777216 →
    Calls Try.prog 16 #[v] w fun e w' => e = .returned (.tuple #[.agg #[.int .u32 (h0.s : Int), .int .u32 (h0.d : Int), .int .u16 (h0.p : Int), .int .u16 (h0.q : Int), .int .u8 (h0.r : Int)], .int .i64 1]) ∧ Below w.heap.size w w'
def OfF : Prop := ∀ (a b c d e : Nat) (v : Value) (w : World), SrcW w v [a, b, c, d, e] → a < 4294967296 → b < 4294967296 → c < 4294967296 → d < 4294967296 → e < 4294967296 → 65535 < c ∨ 65535 < d ∨ 255 < e →
    Calls Try.prog 16 #[v] w fun e w' => e = .returned (.tuple #[.agg #[.int .u32 (h0.s : Int), .int .u32 (h0.d : Int), .int .u16 (h0.p : Int), .int .u16 (h0.q : Int), .int .u8 (h0.r : Int)], .int .i64 61]) ∧ Below w.heap.size w w'
def OfC : Prop := ∀ (a b c d e : Nat) (v : Value) (w : World), SrcW w v [a, b, c, d, e] → a < 4294967296 → b < 4294967296 → c ≤ 65535 → d ≤ 65535 → e ≤ 255 →
    Calls Try.prog 16 #[v] w fun ee w' => ee = .returned (.tuple #[.agg #[.int .u32 (a : Int), .int .u32 (b : Int), .int .u16 (c : Int), .int .u16 (d : Int), .int .u8 (e : Int)], .int .i64 0]) ∧ Below w.heap.size w w'
end Go.Proofs.Ytpgadbiohmofeab
