/-
  Lists that were told, kept beside a trie that changes.
-/
import Derived.Test.YtfbkjghipahipaaTrFo
import Derived.Test.YtfbkjghipahipaaTrPh
import Derived.Test.YtfbkjghipahipaaTrZn
namespace Go.Proofs.Ytfbkjghipahipaa
open Go.RowKit Go.Shelf
set_option linter.unusedVariables false
set_option linter.unusedSimpArgs false

/-- The list r reads as l, and lies apart from the trie. -/
def Kr (W : World) (t : Nat) (v r : Value) (l : List En) : Prop := SrcE W r l ∧ ∀ q, r.ownBlock = some q → q < W.heap.size ∧ q ≠ t ∧ v.ownBlock ≠ some q
variable {w W W' : World} {t : Nat} {v v' r : Value} {Wd M : Nat} {L l : List En} {ar : Nat}
theorem Kr.on (h : Kr W t v r l) (hb : Below W.heap.size W W') : Kr W' t v r l := ⟨h.1.keep hb, fun q e => ⟨Nat.lt_of_lt_of_le (h.2 q e).1 hb.size, (h.2 q e).2⟩⟩
theorem Kr.moved (h : Kr W t v r l) (m : Moved W W' t v v') : Kr W' t v' r l := by
  refine ⟨h.1.stay (fun q e hq => m.block q hq (h.2 q e).2.1 (h.2 q e).2.2), fun q e => ⟨Nat.lt_of_lt_of_le (h.2 q e).1 m.size, (h.2 q e).2.1, fun e2 => ?_⟩⟩
  rcases m.own q e2 with a | a
  · exact (h.2 q e).2.2 a
  · have := (h.2 q e).1; omega
theorem kr_new (h : Tr W t v Wd M L ar) (hr : RowE W' W.heap.size r l) : Kr W' t v r l :=
  ⟨hr.src, fun q e => ⟨(hr.lt q e).2, by have := (hr.lt q e).1; have := h.lt; omega, fun e2 => by have := (hr.lt q e).1; have := h.own e2; omega⟩⟩
theorem told_walk (h : Own w W t v Wd M L ar) : Calls Try.prog 11 #[.func (.func 27) #[] #[.pointer (some ⟨W.heap.size, 0, none⟩)]] (W.alloc (.cells #[.pointer (some ⟨t, 0, none⟩)] 23)) fun e w' => ∃ r, e = .returned r ∧ Kr w' t v r L ∧ Own w w' t v Wd M L ar ∧ Below W.heap.size W w' := by
  have hb := bel_al1 W (.cells #[.pointer (some ⟨t, 0, none⟩)] 23)
  have hT := (h.on hb).tr
  refine (toldC _ _ _ L _ (itr_walk t v Wd M L ar W.heap.size (fun q => q < (W.alloc (.cells #[.pointer (some ⟨t, 0, none⟩)] 23)).heap.size) _ hT h.hw h.hm (blk_new W _) (fun q hq => hq) hT.lt (by simp) (fun q e => hT.own e))).mono fun e w' ⟨r, a, b, c⟩ => ?_
  exact ⟨r, a, kr_new h.tr (b.base hb.size), (h.on hb).on c, hb.trans (c.mono hb.size)⟩
theorem told_above (h : Own w W t v Wd M L ar) (k : Nat) (n : Int) (hk : k < 4294967296) : Calls Try.prog 11 #[.func (.func 29) #[] #[.pointer (some ⟨W.heap.size, 0, none⟩), .pointer (some ⟨W.heap.size + 1, 0, none⟩), .pointer (some ⟨W.heap.size + 1 + 1, 0, none⟩)]]
    (((W.alloc (.cells #[.pointer (some ⟨t, 0, none⟩)] 23)).alloc (.cells #[.int .u32 (k : Int)] 33)).alloc (.cells #[.int .i64 n] 3)) fun e w' => ∃ r, e = .returned r ∧ Kr w' t v r (abvD Wd L k n) ∧ Own w w' t v Wd M L ar ∧ Below W.heap.size W w' := by
  have hb := bel_al3 W (.cells #[.pointer (some ⟨t, 0, none⟩)] 23) (.cells #[.int .u32 (k : Int)] 33) (.cells #[.int .i64 n] 3)
  have hT := (h.on hb).tr
  have hC := capA_new W t k n
  refine (toldC _ _ _ (abvD Wd L k n) _ (itr_above t v Wd M L ar k n W.heap.size (W.heap.size + 1) (W.heap.size + 1 + 1) (fun q => q < (((W.alloc (.cells #[.pointer (some ⟨t, 0, none⟩)] 23)).alloc (.cells #[.int .u32 (k : Int)] 33)).alloc (.cells #[.int .i64 n] 3)).heap.size) _ hT h.hw h.hm hk hC (fun q hq => hq) hT.lt (blk_lt hC.1) (blk_lt hC.2.1) (blk_lt hC.2.2) (fun q e => hT.own e))).mono fun e w' ⟨r, a, b, c⟩ => ?_
  exact ⟨r, a, kr_new h.tr (b.base hb.size), (h.on hb).on c, hb.trans (c.mono hb.size)⟩
theorem same_above (h : Own w W t v Wd M L ar) (k : Nat) (n : Int) (hk : k < 4294967296) (u : Value) (ee : Int) (hS : SrcE (((W.alloc (.cells #[.pointer (some ⟨t, 0, none⟩)] 23)).alloc (.cells #[.int .u32 (k : Int)] 33)).alloc (.cells #[.int .i64 n] 3)) u (abvD Wd L k n)) (h1 : -9223372036854775808 ≤ ee) (h2 : ee ≤ 9223372036854775807) :
    Calls Try.prog 18 #[.func (.func 29) #[] #[.pointer (some ⟨W.heap.size, 0, none⟩), .pointer (some ⟨W.heap.size + 1, 0, none⟩), .pointer (some ⟨W.heap.size + 1 + 1, 0, none⟩)], u, .int .i64 ee]
    (((W.alloc (.cells #[.pointer (some ⟨t, 0, none⟩)] 23)).alloc (.cells #[.int .u32 (k : Int)] 33)).alloc (.cells #[.int .i64 n] 3)) fun e w' => e = .returned (.bool true) ∧ Below W.heap.size W w' := by
  have hb := bel_al3 W (.cells #[.pointer (some ⟨t, 0, none⟩)] 23) (.cells #[.int .u32 (k : Int)] 33) (.cells #[.int .i64 n] 3)
  have hT := (h.on hb).tr
  have hC := capA_new W t k n
  refine (sameA _ _ _ (abvD Wd L k n) _ ee _ (itr_above t v Wd M L ar k n W.heap.size (W.heap.size + 1) (W.heap.size + 1 + 1) (fun q => q < (((W.alloc (.cells #[.pointer (some ⟨t, 0, none⟩)] 23)).alloc (.cells #[.int .u32 (k : Int)] 33)).alloc (.cells #[.int .i64 n] 3)).heap.size) _ hT h.hw h.hm hk hC (fun q hq => hq) hT.lt (blk_lt hC.1) (blk_lt hC.2.1) (blk_lt hC.2.2) (fun q e => hT.own e)) hS h1 h2).mono fun e w' ⟨a, b⟩ => ⟨a, hb.trans (b.mono hb.size)⟩
/-- played, its list and arena not named. -/
theorem own_played (Wd : Nat) (h : okN Wd 1048576 = true) (l : List Opx) (bd : ∀ o ∈ l, BdO o) (hl : l.length ≤ 16777216) (u : Value) (w : World) (hS : SrcO w u l) :
    Calls Try.prog 10 #[.int .i64 (Wd : Int), u] w fun e W' => ∃ t v L ar, e = .returned (.pointer (some ⟨t, 0, none⟩)) ∧ Own w W' t v Wd 1048576 L ar :=
  (playedC Wd h l (fun o ho => (bd o ho).2.1) hl u w hS).mono fun e W' ⟨t, v, a, b⟩ => ⟨t, v, _, _, a, b⟩
end Go.Proofs.Ytfbkjghipahipaa
