/-
  PkBD: TpTw, one behind the other (tools/pack.py).
-/
import Derived.Test.YtfpmljgmfapoiaaPkBB
import Derived.Test.YtfpmljgmfapoiaaPkAD
/-
  Two engines in one world, and blocks that neither of them holds: what is done to one leaves the other and the blocks as they were.
-/
namespace Go.Proofs.Ytfpmljgmfapoiaa
open Go.RowKit
set_option linter.unusedVariables false
set_option linter.unusedSimpArgs false

structure Two (w W : World) (X Y : Nat) (c : Cf) (L : Tp → List Hx.SlI) (l M : List Ru) (K : List Nat) : Prop where
  eb : ∃ (L' : Tp → List Hx.SlI) (S S' : Nat → Prop), Eng W X c l L S ∧ Eng W Y c M L' S' ∧ ¬ S Y ∧ ¬ S' X ∧ (∀ k, S k → S' k → False) ∧ (∀ k, S k → w.heap.size ≤ k ∧ k < W.heap.size) ∧ (∀ k, S' k → w.heap.size ≤ k ∧ k < W.heap.size) ∧ ∀ k ∈ K, k < W.heap.size ∧ ¬ S k ∧ ¬ S' k ∧ k ≠ X ∧ k ≠ Y
  xy : X ≠ Y
  wx : w.heap.size ≤ X
  wy : w.heap.size ≤ Y
  bel : Below w.heap.size w W
theorem Two.on {w W W' : World} {X Y : Nat} {c : Cf} {L : Tp → List Hx.SlI} {l M : List Ru} {K : List Nat} (h : Two w W X Y c L l M K) (hb : Below W.heap.size W W') : Two w W' X Y c L l M K := by
  obtain ⟨L', S, S', a, b, a1, b1, dj, s1, s2, kk⟩ := h.eb
  have hz := hb.size
  exact ⟨⟨_, S, S', a.on hb, b.on hb, a1, b1, dj, fun k e => ⟨(s1 k e).1, by have := (s1 k e).2; omega⟩, fun k e => ⟨(s2 k e).1, by have := (s2 k e).2; omega⟩, fun k e => ⟨by have := (kk k e).1; omega, (kk k e).2⟩⟩, h.xy, h.wx, h.wy, h.bel.trans (hb.mono h.bel.size)⟩
/-- A block that came since. -/
theorem Two.new {w W W' : World} {X Y : Nat} {c : Cf} {L : Tp → List Hx.SlI} {l M : List Ru} {K : List Nat} (h : Two w W X Y c L l M K) (hb : Below W.heap.size W W') {B : Nat} (h1 : W.heap.size ≤ B) (h2 : B < W'.heap.size) : Two w W' X Y c L l M (B :: K) := by
  obtain ⟨L', S, S', a, b, a1, b1, dj, s1, s2, kk⟩ := h.eb
  have hz := hb.size
  have eX := a.lt
  have eY := b.lt
  refine ⟨⟨_, S, S', a.on hb, b.on hb, a1, b1, dj, fun k e => ⟨(s1 k e).1, by have := (s1 k e).2; omega⟩, fun k e => ⟨(s2 k e).1, by have := (s2 k e).2; omega⟩, fun k e => ?_⟩, h.xy, h.wx, h.wy, h.bel.trans (hb.mono h.bel.size)⟩
  rcases List.mem_cons.1 e with rfl | e
  · exact ⟨h2, fun e => by have := (s1 _ e).2; omega, fun e => by have := (s2 _ e).2; omega, by omega, by omega⟩
  · exact ⟨by have := (kk k e).1; omega, (kk k e).2⟩
/-- Blocks that came since. -/
theorem Two.news {w W W' : World} {X Y : Nat} {c : Cf} {L : Tp → List Hx.SlI} {l M : List Ru} {K : List Nat} (h : Two w W X Y c L l M K) (hb : Below W.heap.size W W') (N : List Nat) (hN : ∀ B ∈ N, W.heap.size ≤ B ∧ B < W'.heap.size) : Two w W' X Y c L l M (N ++ K) := by
  obtain ⟨L', S, S', a, b, a1, b1, dj, s1, s2, kk⟩ := h.eb
  have hz := hb.size
  have eX := a.lt
  have eY := b.lt
  refine ⟨⟨_, S, S', a.on hb, b.on hb, a1, b1, dj, fun k e => ⟨(s1 k e).1, by have := (s1 k e).2; omega⟩, fun k e => ⟨(s2 k e).1, by have := (s2 k e).2; omega⟩, fun k e => ?_⟩, h.xy, h.wx, h.wy, h.bel.trans (hb.mono h.bel.size)⟩
  rcases List.mem_append.1 e with e | e
  · have h1 := hN k e
    exact ⟨h1.2, fun e => by have := (s1 _ e).2; omega, fun e => by have := (s2 _ e).2; omega, by omega, by omega⟩
  · exact ⟨by have := (kk k e).1; omega, (kk k e).2⟩
theorem Two.flip {w W : World} {X Y : Nat} {c : Cf} {L : Tp → List Hx.SlI} {l M : List Ru} {K : List Nat} (h : Two w W X Y c L l M K) : ∃ L', Two w W Y X c L' M l K := by
  obtain ⟨L', S, S', a, b, a1, b1, dj, s1, s2, kk⟩ := h.eb
  exact ⟨L', ⟨_, S', S, b, a, b1, a1, fun k e f => dj k f e, s2, s1, fun k e => ⟨(kk k e).1, (kk k e).2.2.1, (kk k e).2.1, (kk k e).2.2.2.2, (kk k e).2.2.2.1⟩⟩, fun e => h.xy e.symm, h.wy, h.wx, h.bel⟩
/-- What a call on the second engine does. -/
theorem Two.did {w W : World} {X Y : Nat} {c : Cf} {L : Tp → List Hx.SlI} {l M : List Ru} {K : List Nat} (h : Two w W X Y c L l M K) : ∃ (L' : Tp → List Hx.SlI) (S : Nat → Prop), Eng W Y c M L' S ∧ ∀ {W' : World} {M' : List Ru}, Did W W' Y c M' S → Two w W' X Y c L l M' K ∧ ∀ B ∈ K, W'.heap[B]? = W.heap[B]? := by
  obtain ⟨L', S, S', a, b, a1, b1, dj, s1, s2, kk⟩ := h.eb
  refine ⟨L', S', b, fun {W' M'} hd => ?_⟩
  obtain ⟨L2, hE, hg⟩ := hd
  have hz := h.bel.size
  have hz2 := hg.size
  have hXl := a.lt
  refine ⟨⟨⟨_, S, _, a.stay hg.size (fun k hk e => hg.block k hk ?_ ?_), hE, a1, ?_, ?_, ?_, ?_, ?_⟩, h.xy, h.wx, h.wy, hg.below h.bel h.bel.size h.wy (fun k e => (s2 k e).1)⟩, fun B hB => hg.block B (kk B hB).1 (kk B hB).2.2.2.2 (kk B hB).2.2.1⟩
  · rintro rfl
    rcases e with e | e
    · exact h.xy e.symm
    · exact a1 e
  · intro e2
    rcases e with rfl | e
    · exact b1 e2
    · exact dj k e e2
  · rintro (e | ⟨e, _⟩)
    · exact b1 e
    · omega
  · rintro k e (e2 | ⟨e2, _⟩)
    · exact dj k e e2
    · have := (s1 k e).2; omega
  · intro k e
    have := s1 k e
    omega
  · rintro k (e2 | ⟨e2, e3⟩)
    · have := s2 k e2; omega
    · omega
  · intro k e
    have e9 := kk k e
    refine ⟨by omega, e9.2.1, ?_, e9.2.2.2⟩
    rintro (e2 | ⟨e2, _⟩)
    · exact e9.2.2.1 e2
    · omega
theorem Two.ins {w W : World} {X Y : Nat} {c : Cf} {L : Tp → List Hx.SlI} {l M : List Ru} {K : List Nat} (h : Two w W X Y c L l M K) (p : Int) (R : Ru) (b : BdR R) (hc : BdC c) (hm : c.m ≤ 64) :
    Calls Try.prog 15 #[.pointer (some ⟨Y, 0, none⟩), .int .i64 p, .agg #[.int .i64 R.i, .int .u32 R.s, .int .i64 R.sl, .int .u32 R.d, .int .i64 R.dl, .int .u16 R.p.1, .int .u16 R.p.2, .int .u16 R.q.1, .int .u16 R.q.2, .int .u8 R.m.1, .int .u8 R.m.2, .int .i64 R.act]] W fun e W' => e = .returned (.int .i64 (pinE c M p R)) ∧ Two w W' X Y c L l (pinL c M p R) K ∧ ∀ B ∈ K, W'.heap[B]? = W.heap[B]? := by
  obtain ⟨L', S, hE, hd⟩ := h.did
  exact (insertE Y c M L' S p R W hE b hc hm).mono fun e W' ⟨he, h2⟩ => ⟨he, hd h2⟩
theorem Two.del {w W : World} {X Y : Nat} {c : Cf} {L : Tp → List Hx.SlI} {l M : List Ru} {K : List Nat} (h : Two w W X Y c L l M K) (x : Int) :
    Calls Try.prog 16 #[.pointer (some ⟨Y, 0, none⟩), .int .i64 x] W fun e W' => e = .returned (.int .i64 (delE M x)) ∧ Two w W' X Y c L l (delL M x) K ∧ ∀ B ∈ K, W'.heap[B]? = W.heap[B]? := by
  obtain ⟨L', S, hE, hd⟩ := h.did
  exact (deleteE Y c M L' S x W hE).mono fun e W' ⟨he, h2⟩ => ⟨he, hd h2⟩
theorem Two.set {w W : World} {X Y : Nat} {c : Cf} {L : Tp → List Hx.SlI} {l M : List Ru} {K : List Nat} (h : Two w W X Y c L l M K) (au : Option Addr) (nu cu : Nat) (m : List Ru) (hs : SrcU W (.slice au nu cu) m) (hml : m.length ≤ 200000) (b0 : ∀ R ∈ m, BdR R) (hc : BdC c) (hm : c.m ≤ 64) :
    Calls Try.prog 13 #[.pointer (some ⟨Y, 0, none⟩), .slice au nu cu] W fun e W' => e = .returned (.int .i64 (psetE c m)) ∧ Two w W' X Y c L l (psetL c m M) K ∧ ∀ B ∈ K, W'.heap[B]? = W.heap[B]? := by
  obtain ⟨L', S, hE, hd⟩ := h.did
  exact (setEE Y c M L' S au nu cu m W hE hs hml b0 hc hm).mono fun e W' ⟨he, h2⟩ => ⟨he, hd h2⟩
theorem Two.ask {w W : World} {X Y : Nat} {c : Cf} {L : Tp → List Hx.SlI} {l M : List Ru} {K : List Nat} (hA : Two w W X Y c L l M K) (h : Hd) (oh : OkH h) :
    Calls Try.prog 10 #[.pointer (some ⟨X, 0, none⟩), .agg #[.int .u32 h.s, .int .u32 h.d, .int .u16 h.p, .int .u16 h.q, .int .u8 h.r]] W fun e W' => e = .returned (.tuple #[vdV c l h, .agg (stC (askR l L h))]) ∧ Below W.heap.size W W' := by
  obtain ⟨L', S, S', a, _⟩ := hA.eb
  exact askE X c l _ _ h W a oh
theorem Two.stats {w W : World} {X Y : Nat} {c : Cf} {L : Tp → List Hx.SlI} {l M : List Ru} {K : List Nat} (hA : Two w W X Y c L l M K) :
    Calls Try.prog 12 #[.pointer (some ⟨X, 0, none⟩)] W fun e W' => e = .returned (.agg (saC (tpsK l).length (allS l).length (maxS L (tpsK l)))) ∧ Below W.heap.size W W' := by
  obtain ⟨L', S, S', a, _⟩ := hA.eb
  exact statsE X c l _ _ W a
end Go.Proofs.Ytfpmljgmfapoiaa
