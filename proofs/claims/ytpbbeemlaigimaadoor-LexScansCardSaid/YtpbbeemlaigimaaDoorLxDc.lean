/-
  Two scanners of one text, side by side; quintetlaw09's pick; a list of Steps that is read. Written by tools/mkLxLs.py.
-/
import Derived.Test.YtpbbeemlaigimaaDoorLxDb
import Derived.Lib.MinMax
namespace Go.Proofs.YtpbbeemlaigimaaDoor
open Go.RowKit
set_option linter.unusedVariables false
set_option linter.unusedSimpArgs false

structure Two (w0 w : World) (S1 S2 Y : Nat) (v1 v2 u : Value) (L : List Tk) (er : Wr) (a g : Nat) : Prop where
  bel : Below w0.heap.size w0 w
  s1 : Scn w S1 v1 a er
  s2 : Scn w S2 v2 g er
  r1 : RowT w 0 v1 L
  r2 : RowT w 0 v2 L
  ru : RowT w 0 u L
  wr : w.heap[Y]? = some (.cells #[.int .i64 (er.e : Int), .int .i64 (er.l : Int), .int .i64 (er.c : Int)] 25)
  hnd : Hnd w
  la : a ≤ L.length
  lg : g ≤ L.length
structure Far (w0 : World) (S1 S2 Y : Nat) (v1 v2 u : Value) : Prop where
  ne : S1 ≠ S2
  y1 : Y ≠ S1
  y2 : Y ≠ S2
  a1 : some S1 ≠ v1.ownBlock
  a2 : some S1 ≠ v2.ownBlock
  au : some S1 ≠ u.ownBlock
  b1 : some S2 ≠ v1.ownBlock
  b2 : some S2 ≠ v2.ownBlock
  bu : some S2 ≠ u.ownBlock
  l1 : w0.heap.size ≤ S1
  l2 : w0.heap.size ≤ S2
  g0 : 4 < w0.heap.size
theorem Two.on {w0 w w1 : World} {S1 S2 Y : Nat} {v1 v2 u : Value} {L : List Tk} {er : Wr} {a g : Nat} (h : Two w0 w S1 S2 Y v1 v2 u L er a g) (hb : Below w.heap.size w w1) : Two w0 w1 S1 S2 Y v1 v2 u L er a g :=
  ⟨h.bel.trans (hb.mono h.bel.size), blk_on h.s1 hb, blk_on h.s2 hb, h.r1.on hb, h.r2.on hb, h.ru.on hb, blk_on h.wr hb, h.hnd.on hb, h.la, h.lg⟩
theorem Two.one {w0 w w1 : World} {S1 S2 Y : Nat} {v1 v2 u : Value} {L : List Tk} {er : Wr} {a g a' : Nat} (h : Two w0 w S1 S2 Y v1 v2 u L er a g) (f : Far w0 S1 S2 Y v1 v2 u) (hb : But S1 w w1) (hs : Scn w1 S1 v1 a' er) (ha : a' ≤ L.length) : Two w0 w1 S1 S2 Y v1 v2 u L er a' g :=
  ⟨h.bel.trans (hb.below f.l1 h.bel.size), hs, hb.blk h.s2 f.ne.symm, hb.row h.r1 f.a1, hb.row h.r2 f.a2, hb.row h.ru f.au, hb.blk h.wr f.y1, hb.cell h.hnd (by have := f.g0; have := f.l1; omega), ha, h.lg⟩
theorem Two.two {w0 w w1 : World} {S1 S2 Y : Nat} {v1 v2 u : Value} {L : List Tk} {er : Wr} {a g g' : Nat} (h : Two w0 w S1 S2 Y v1 v2 u L er a g) (f : Far w0 S1 S2 Y v1 v2 u) (hb : But S2 w w1) (hs : Scn w1 S2 v2 g' er) (hg : g' ≤ L.length) : Two w0 w1 S1 S2 Y v1 v2 u L er a g' :=
  ⟨h.bel.trans (hb.below f.l2 h.bel.size), hb.blk h.s1 f.ne, hs, hb.row h.r1 f.b1, hb.row h.r2 f.b2, hb.row h.ru f.bu, hb.blk h.wr f.y2, hb.cell h.hnd (by have := f.g0; have := f.l2; omega), h.la, hg⟩
/-- A list of Steps that is read. -/
def SrcS (w : World) (v : Value) (l : List (Int × Int)) : Prop := ∃ (ad : Option Addr) (cap : Nat), v = .slice ad l.length cap ∧ (0 < l.length → ∃ b o : Nat, ad = some ⟨b, o, none⟩ ∧ ∀ k (hk : k < l.length), w.cell? ⟨b, o + k * 2, none⟩ = some (.int .i64 (l[k]'hk).1) ∧ w.cell? ⟨b, o + k * 2 + 1, none⟩ = some (.int .i64 (l[k]'hk).2))
set_option maxRecDepth 20000 in
theorem pickC (n : Int) (w : World) (h0 : 0 < n) (h1 : n ≤ 9223372036854775807) : Calls Tryd.prog 17 #[.int .i64 n, .int .i64 20] w fun e w' => e = .returned (.int .i64 ((n.toNat % 20 : Nat) : Int)) ∧ w' = w := by
  have e : n.tmod 20 = ((n.toNat % 20 : Nat) : Int) := by
    rw [Int.tmod_eq_emod_of_nonneg (by omega)]
    omega
  have h0' : ¬ n < 0 := by omega
  go_enter Tryd.func17, Tryd.ntmps17
  go_wp2
  go_ret
  exact ⟨by first | rfl | (rw [e]) | (rw [← e]; rfl) | simp [e], rfl⟩
end Go.Proofs.YtpbbeemlaigimaaDoor
