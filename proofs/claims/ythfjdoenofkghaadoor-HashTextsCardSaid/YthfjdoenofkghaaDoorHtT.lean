/-
  Two tables of texts that know nothing of one another.
-/
import Derived.Test.YthfjdoenofkghaaDoorHsN
import Derived.Test.YthfjdoenofkghaaDoorHtI
namespace Go.Proofs.YthfjdoenofkghaaDoor
open Go.RowKit
set_option linter.unusedVariables false
set_option linter.unusedSimpArgs false
namespace Ss

theorem Tab.far {w w' : World} {t u : Nat} {v v2 x : Value} {M c sp : Nat} {l : List SlI} (h : Tab w u x M c sp l) (m : Moved w w' t v v2) (hu : u ≠ t) (h1 : v.ownBlock ≠ some u) (h2 : x.ownBlock ≠ some t) (h3 : ∀ k, x.ownBlock = some k → v.ownBlock ≠ some k) : Tab w' u x M c sp l :=
  ⟨by rw [m.block u h.lt hu h1]; exact h.1, h.2.1.moved m h2 h3, h.2.2⟩
theorem Tb.far {w w' : World} {t u : Nat} {v v2 x : Value} {M c P : Nat} {m : Hd → Option ByteArray} (h : Tb w u x M c P m) (mv : Moved w w' t v v2) (hu : u ≠ t) (h1 : v.ownBlock ≠ some u) (h2 : x.ownBlock ≠ some t) (h3 : ∀ k, x.ownBlock = some k → v.ownBlock ≠ some k) : Tb w' u x M c P m := by
  obtain ⟨sp, l, a, b⟩ := h
  exact ⟨sp, l, a.far mv hu h1 h2 h3, b⟩
/-- Two tables made since w, apart. -/
structure Tw (w w1 : World) (t u : Nat) (v x : Value) (M c d P Q : Nat) (m n : Hd → Option ByteArray) : Prop where
  a : Tb w1 t v M c P m
  b : Tb w1 u x M d Q n
  ge1 : w.heap.size ≤ t
  ge2 : w.heap.size ≤ u
  ge3 : ∀ k, v.ownBlock = some k → w.heap.size ≤ k
  ge4 : ∀ k, x.ownBlock = some k → w.heap.size ≤ k
  ne : t ≠ u
  f1 : v.ownBlock ≠ some u
  f2 : x.ownBlock ≠ some t
  f3 : ∀ k, v.ownBlock = some k → x.ownBlock ≠ some k
  bel : Below w.heap.size w w1
section
variable {w w1 w2 : World} {t u : Nat} {v x v2 : Value} {M c d P Q c' P' : Nat} {m n m' : Hd → Option ByteArray}
theorem Tw.swap (h : Tw w w1 t u v x M c d P Q m n) : Tw w w1 u t x v M d c Q P n m := ⟨h.b, h.a, h.ge2, h.ge1, h.ge4, h.ge3, fun e => h.ne e.symm, h.f2, h.f1, fun k e e' => h.f3 k e' e, h.bel⟩
theorem Tw.on (h : Tw w w1 t u v x M c d P Q m n) (hb : Below w1.heap.size w1 w2) : Tw w w2 t u v x M c d P Q m n := ⟨h.a.on hb, h.b.on hb, h.ge1, h.ge2, h.ge3, h.ge4, h.ne, h.f1, h.f2, h.f3, h.bel.trans (hb.mono h.bel.size)⟩
theorem Tw.moved (h : Tw w w1 t u v x M c d P Q m n) (hT : Tb w2 t v2 M c' P' m') (hm : Moved w1 w2 t v v2) : Tw w w2 t u v2 x M c' d P' Q m' n where
  a := hT
  b := h.b.far hm (fun e => h.ne e.symm) h.f1 h.f2 (fun k e e' => h.f3 k e' e)
  ge1 := h.ge1
  ge2 := h.ge2
  ge3 := hm.ge h.bel.size h.ge3
  ge4 := h.ge4
  ne := h.ne
  f1 := fun e => by
    rcases hm.own _ e with q | q
    · exact h.f1 q
    · have := h.b.lt; omega
  f2 := h.f2
  f3 := fun k e e' => by
    rcases hm.own _ e with q | q
    · exact h.f3 k q e'
    · have := h.b.own k e'; omega
  bel := h.bel.trans (hm.below h.bel.size h.ge1 h.ge3)
/-- A block that is none of theirs. -/
def K2 (w : World) (t u : Nat) (v x : Value) (B : Nat) (o : Obj) : Prop := Kb w t v B o ∧ B ≠ u ∧ x.ownBlock ≠ some B
theorem K2.swap {B : Nat} {o : Obj} (h : K2 w t u v x B o) : K2 w u t x v B o := ⟨⟨h.1.1, h.2.1, h.2.2⟩, h.1.2.1, h.1.2.2⟩
theorem K2.on {B : Nat} {o : Obj} (h : K2 w t u v x B o) (hb : Below w.heap.size w w1) : K2 w1 t u v x B o := ⟨h.1.on hb, h.2⟩
theorem K2.moved {B : Nat} {o : Obj} (h : K2 w t u v x B o) (hm : Moved w w1 t v v2) : K2 w1 t u v2 x B o := ⟨h.1.moved hm, h.2⟩
theorem Tw.new (h : Tw w w1 t u v x M c d P Q m n) {B : Nat} {o : Obj} (hb : Below w1.heap.size w1 w2) (hB : w1.heap.size ≤ B) (ho : w2.heap[B]? = some o) : K2 w2 t u v x B o :=
  ⟨⟨ho, by have := h.a.lt; omega, fun e => by have := h.a.own _ e; omega⟩, by have := h.b.lt; omega, fun e => by have := h.b.own _ e; omega⟩
theorem tw_put (k : Hd) (y : ByteArray) (h : Tw w w1 t u v x M c d P Q m n) (o : OkH k) :
    Calls Tryd.prog 7 #[.pointer (some ⟨t, 0, none⟩), .agg #[.int .u32 (k.s : Int), .int .u32 (k.d : Int), .int .u16 (k.p : Int), .int .u16 (k.q : Int), .int .u8 (k.r : Int)], .string y] w1 fun e w' => e = .returned (.int .i64 (putE m M c k)) ∧ ∃ v2, Tw w w' t u v2 x M (putN m M c k) d (max P (putN m M c k)) Q (putM m M c k y) n ∧ Moved w1 w' t v v2 :=
  (putC t v M c P m k y w1 h.a o).mono fun e w2 ⟨he, v2, hT, hm⟩ => ⟨he, v2, h.moved hT hm, hm⟩
theorem tw_del (k : Hd) (h : Tw w w1 t u v x M c d P Q m n) (o : OkH k) :
    Calls Tryd.prog 6 #[.pointer (some ⟨t, 0, none⟩), .agg #[.int .u32 (k.s : Int), .int .u32 (k.d : Int), .int .u16 (k.p : Int), .int .u16 (k.q : Int), .int .u8 (k.r : Int)]] w1 fun e w' => e = .returned (.bool (m k).isSome) ∧ Tw w w' t u v x M (delN m c k) d P Q (upd m k none) n ∧ Moved w1 w' t v v :=
  (delC t v M c P m k w1 h.a o).mono fun e w2 ⟨he, hT, _, hm⟩ => ⟨he, h.moved hT hm, hm⟩
theorem tw_get (k : Hd) (h : Tw w w1 t u v x M c d P Q m n) (o : OkH k) :
    Calls Tryd.prog 8 #[.pointer (some ⟨t, 0, none⟩), .agg #[.int .u32 (k.s : Int), .int .u32 (k.d : Int), .int .u16 (k.p : Int), .int .u16 (k.q : Int), .int .u8 (k.r : Int)]] w1 fun e w' => e = .returned (.tuple #[.string ((m k).getD .empty), .bool (m k).isSome]) ∧ Below w1.heap.size w1 w' := getC t v M c P m k w1 h.a o
theorem tw_len (h : Tw w w1 t u v x M c d P Q m n) :
    Calls Tryd.prog 10 #[.pointer (some ⟨t, 0, none⟩)] w1 fun e w' => e = .returned (.int .i64 (c : Int)) ∧ Below w1.heap.size w1 w' := lenC t v M c P m w1 h.a
theorem tw_new {t u : Nat} (h1 : Ow w w1 t M c P m) (h2 : Ow w1 w2 u M d Q n) : ∃ v x, Tw w w2 t u v x M c d P Q m n := by
  obtain ⟨v, a1, a2, a3, a4⟩ := h1
  obtain ⟨x, b1, b2, b3, b4⟩ := h2
  have e1 := a1.lt
  refine ⟨v, x, a1.on b4, b1, a2, Nat.le_trans a4.size b2, a3, fun k e => Nat.le_trans a4.size (b3 k e), by omega, fun e => by have := a1.own _ e; omega, fun e => by have := b3 _ e; omega, fun k e e' => by have := a1.own _ e; have := b3 _ e'; omega, a4.trans (b4.mono a4.size)⟩
end
end Ss
/-- The header with its first field turned. -/
def flp (k : Hd) : Hd := ⟨4294967295 - k.s, k.d, k.p, k.q, k.r⟩
theorem flp_ok {k : Hd} (o : OkH k) : OkH (flp k) := by unfold OkH flp at *; simp; omega
theorem flp_inj {a b : Hd} (oa : OkH a) (ob : OkH b) : flp a = flp b ↔ a = b := by
  constructor
  · intro h
    unfold flp at h
    injection h with h1 h2 h3 h4 h5
    unfold OkH at *
    exact hd_ext (by omega) h2 h3 h4 h5
  · intro h; rw [h]
/-- Two maps, one of which has the headers turned. -/
def Mir (m n : Hd → Option ByteArray) : Prop := ∀ k, OkH k → n (flp k) = m k
theorem Mir.upd {m n : Hd → Option ByteArray} (h : Mir m n) {k : Hd} (o : OkH k) (y : Option ByteArray) : Mir (upd m k y) (upd n (flp k) y) := fun j oj => by
  unfold Go.Proofs.YthfjdoenofkghaaDoor.upd
  by_cases e : j = k
  · rw [if_pos e, if_pos (by rw [e])]
  · rw [if_neg e, if_neg (fun g => e ((flp_inj oj o).1 g))]; exact h j oj
end Go.Proofs.YthfjdoenofkghaaDoor
