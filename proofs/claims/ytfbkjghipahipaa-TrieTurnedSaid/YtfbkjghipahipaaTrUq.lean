/-
  For TrieUndone: what is asked of a trie's numbers.
-/
import Derived.Test.YtfbkjghipahipaaTrUo
namespace Go.Proofs.Ytfbkjghipahipaa
open Go.RowKit Go.Shelf
set_option linter.unusedVariables false
set_option linter.unusedSimpArgs false
variable {w W : World} {t : Nat} {v : Value} {Wd M : Nat} {L : List En} {ar : Nat}
theorem un_put (h : Own w W t v Wd M L ar) (k : Nat) (n : Int) (hk : k < 4294967296) : ∃ (gv pe : Int) (hd : Bool) (L4 : List En) (a4 : Nat), PutWays Wd M L ar k n pe hd L4 a4 ∧
    (Calls Try.prog 15 #[.pointer (some ⟨t, 0, none⟩), .int .u32 (k : Int), .int .i64 n] W fun e W' => e = .returned (.tuple #[.int .i64 gv, .bool hd]) ∧ Below W.heap.size W W') ∧
    ∀ W', Own w W' t v Wd M L ar → Calls Try.prog 19 #[.pointer (some ⟨t, 0, none⟩), .int .u32 (k : Int), .int .i64 n, .int .i64 7] W' fun e W'' => e = .returned (.int .i64 pe) ∧ ∃ v', Own w W'' t v' Wd M L4 a4 ∧ Moved W' W'' t v v' :=
  ⟨_, _, _, _, _, put_ways h.tr h.hw k n 7, getC t v Wd M L ar k n W h.tr h.hw h.hm hk, fun W' h' => own_put h' k n 7 hk⟩
theorem cnt_small (h : Own w W t v Wd M L ar) : ((cntL Wd 0 none L : Nat) : Int) ≤ 1048576 ∧ (ar : Int) ≤ 1048576 := by
  obtain ⟨a, b, c⟩ := h.tr.cntA
  have := h.hm
  omega
theorem own_len (h : Own w W t v Wd M L ar) : L.length ≤ 1048576 := by
  obtain ⟨A, r, f, c, h1, h2, h3⟩ := h.tr
  have := h2.len
  have := h2.le
  have := h.hm
  omega
theorem kr_cells {l : List En} {ad : Option Addr} {m cap : Nat} (h : Kr W t v (.slice ad m cap) l) (i : Nat) (hi : i < l.length) : ∃ g off, ad = some ⟨g, off, none⟩ ∧ ∀ W v, Kr W t v (.slice ad m cap) l → W.cell? ⟨g, off + i * 3, none⟩ = some (.int .u32 ((l[i]'hi).k : Int)) ∧ W.cell? ⟨g, off + i * 3 + 1, none⟩ = some (.int .i64 ((l[i]'hi).n : Int)) := by
  obtain ⟨ad', cap', e, _, h2⟩ := h.1
  cases e
  obtain ⟨g, off, rfl, _⟩ := h2 (by omega)
  refine ⟨g, off, rfl, fun W v h => ?_⟩
  obtain ⟨ad', cap', e, _, h2⟩ := h.1
  cases e
  obtain ⟨g', off', e, hc⟩ := h2 (by omega)
  cases e
  exact ⟨hc i hi 0 (by decide), hc i hi 1 (by decide)⟩
theorem kr_word {e : En} (hW : Wd ≤ 32) (h : May Wd e.k e.n) : e.k < 4294967296 := Nat.lt_of_lt_of_le h.2.1 (pow_le32 hW)
end Go.Proofs.Ytfbkjghipahipaa
