/-
  A header among the arguments: opened into its five numbers, and shut again; lists of bytes and of numbers of 32 bits likewise. Written by tools/mkHdFrame.py.
-/
import Derived.Test.YtpgadbiohmofeabRows
import Derived.ProofKit
import Derived.OpenShut
import Derived.Lib.SmallJoins
import Derived.ChangeSlices
import Derived.Carry
import Derived.Test.YtpgadbiohmofeabHdLw
namespace Go.Proofs.Ytpgadbiohmofeab
open Go.ChangeShapes Go.WideShapes Go.ChangeAt Go.RowKit Go.Joins
set_option linter.unusedVariables false

theorem own : ownKnob Try.prog.godebug = none := by kernel_rfl
theorem cells_hd : Try.prog.cellsOf 25 = 5 := by kernel_rfl
theorem cells_u8 : Try.prog.cellsOf 5 = 1 := by kernel_rfl
theorem cells_u16 : Try.prog.cellsOf 23 = 1 := by kernel_rfl
theorem cells_u32 : Try.prog.cellsOf 22 = 1 := by kernel_rfl
theorem laidOut : laidOutB Try.prog = true := by kernel_rfl
theorem wf_u8 {a : Int} (h : (Lit.int .u8 a).wf = true) : ∃ k : Nat, a = (k : Int) ∧ k < 256 := by
  have h1 : IntKind.u8.min ≤ a ∧ a ≤ IntKind.u8.max := by simpa [Lit.wf] using h
  have e1 : IntKind.u8.min = 0 := rfl
  have e2 : IntKind.u8.max = 255 := rfl
  exact ⟨a.toNat, by omega, by omega⟩
theorem wf_i64 {a : Int} (h : (Lit.int .i64 a).wf = true) : -9223372036854775808 ≤ a ∧ a ≤ 9223372036854775807 := by
  have h1 : IntKind.i64.min ≤ a ∧ a ≤ IntKind.i64.max := by simpa [Lit.wf] using h
  have e1 : IntKind.i64.min = -9223372036854775808 := rfl
  have e2 : IntKind.i64.max = 9223372036854775807 := rfl
  omega
theorem wf_u16 {a : Int} (h : (Lit.int .u16 a).wf = true) : ∃ k : Nat, a = (k : Int) ∧ k < 65536 := by
  have h1 : IntKind.u16.min ≤ a ∧ a ≤ IntKind.u16.max := by simpa [Lit.wf] using h
  have e1 : IntKind.u16.min = 0 := rfl
  have e2 : IntKind.u16.max = 65535 := rfl
  exact ⟨a.toNat, by omega, by omega⟩
theorem wf_u32 {a : Int} (h : (Lit.int .u32 a).wf = true) : ∃ k : Nat, a = (k : Int) ∧ k < 4294967296 := by
  have h1 : IntKind.u32.min ≤ a ∧ a ≤ IntKind.u32.max := by simpa [Lit.wf] using h
  have e1 : IntKind.u32.min = 0 := rfl
  have e2 : IntKind.u32.max = 4294967295 := rfl
  exact ⟨a.toNat, by omega, by omega⟩
theorem five {α : Type} {l : List α} (h : l.length = 5) : ∃ a b c d e, l = [a, b, c, d, e] := by
  match l, h with
  | [a, b, c, d, e], _ => exact ⟨a, b, c, d, e, rfl⟩
theorem fiveA {α : Type} {cs : Array α} (h : cs.size = 5) : ∃ a b c d e, cs = #[a, b, c, d, e] := by
  obtain ⟨l⟩ := cs
  obtain ⟨a, b, c, d, e, rfl⟩ := five (l := l) h
  exact ⟨a, b, c, d, e, rfl⟩
theorem open_hd {H : Type} {enc : TypeId × Value → H} {w : World} {base : Nat} {spare : Nat → Bool} {held : Bool} {r : Reach} {b0 : Nat} {v : Value} {d : DataW H} {p : List MemPlace}
    (hv : Value.okWide Try.prog w r b0 25 v) (ht : DataW.Trod enc Try.prog w base spare held 25 v d p) :
    ∃ h : Hd, v = .agg #[.int .u32 (h.s : Int), .int .u32 (h.d : Int), .int .u16 (h.p : Int), .int .u16 (h.q : Int), .int .u8 (h.r : Int)] ∧ d = .agg [.lit (.int .u32 (h.s : Int)), .lit (.int .u32 (h.d : Int)), .lit (.int .u16 (h.p : Int)), .lit (.int .u16 (h.q : Int)), .lit (.int .u8 (h.r : Int))] ∧ p = [] ∧ OkH h := by
  obtain ⟨cs, rfl, hsz⟩ := okWide_struct Try.underlying25 hv
  obtain ⟨c0, c1, c2, c3, c4, rfl⟩ := fiveA (hsz.trans cells_hd)
  obtain ⟨fuel, hf⟩ := ht
  obtain ⟨xs, n, _, hx, hl, hlen, hfl⟩ := DataW.trod_struct Try.underlying25 hf
  obtain ⟨y0, y1, y2, y3, y4, rfl⟩ := five (l := xs) (by simpa using hlen)
  have g0 := hfl 0 _ rfl
  have g1 := hfl 1 _ rfl
  have g2 := hfl 2 _ rfl
  have g3 := hfl 3 _ rfl
  have g4 := hfl 4 _ rfl
  simp [Value.cells, cells_u8, cells_u16, cells_u32] at g0 g1 g2 g3 g4 hx
  obtain ⟨a0, e0, rfl, w0⟩ := DataW.trod_int Try.underlying22 g0
  obtain ⟨a1, e1, rfl, w1⟩ := DataW.trod_int Try.underlying22 g1
  obtain ⟨a2, e2, rfl, w2⟩ := DataW.trod_int Try.underlying23 g2
  obtain ⟨a3, e3, rfl, w3⟩ := DataW.trod_int Try.underlying23 g3
  obtain ⟨a4, e4, rfl, w4⟩ := DataW.trod_int Try.underlying5 g4
  simp at e0 e1 e2 e3 e4
  subst e0 e1 e2 e3 e4
  obtain ⟨k0, rfl, l0⟩ := wf_u32 w0
  obtain ⟨k1, rfl, l1⟩ := wf_u32 w1
  obtain ⟨k2, rfl, l2⟩ := wf_u16 w2
  obtain ⟨k3, rfl, l3⟩ := wf_u16 w3
  obtain ⟨k4, rfl, l4⟩ := wf_u8 w4
  refine ⟨⟨k0, k1, k2, k3, k4⟩, rfl, by simpa using hx.1, by simpa using hx.2, l0, l1, l2, l3, l4⟩
theorem lit_wf {k : IntKind} {n : Nat} (h0 : k.min = 0) (h1 : (n : Int) ≤ k.max) : (Lit.int k (n : Int)).wf = true := by
  simp [Lit.wf, h0]
  exact h1
theorem shut_hd {H : Type} {enc : TypeId × Value → H} {w : World} {base : Nat} {spare : Nat → Bool} {held : Bool} {h : Hd} (o : OkH h) :
    DataW.Trod enc Try.prog w base spare held 25 (.agg #[.int .u32 (h.s : Int), .int .u32 (h.d : Int), .int .u16 (h.p : Int), .int .u16 (h.q : Int), .int .u8 (h.r : Int)]) (.agg [.lit (.int .u32 (h.s : Int)), .lit (.int .u32 (h.d : Int)), .lit (.int .u16 (h.p : Int)), .lit (.int .u16 (h.q : Int)), .lit (.int .u8 (h.r : Int))]) [] := by
  obtain ⟨l0, l1, l2, l3, l4⟩ := o
  have m32 : IntKind.u32.max = 4294967295 := rfl
  have m16 : IntKind.u16.max = 65535 := rfl
  have m8 : IntKind.u8.max = 255 := rfl
  have w0 : (Lit.int .u32 (h.s : Int)).wf = true := lit_wf rfl (by rw [m32]; omega)
  have w1 : (Lit.int .u32 (h.d : Int)).wf = true := lit_wf rfl (by rw [m32]; omega)
  have w2 : (Lit.int .u16 (h.p : Int)).wf = true := lit_wf rfl (by rw [m16]; omega)
  have w3 : (Lit.int .u16 (h.q : Int)).wf = true := lit_wf rfl (by rw [m16]; omega)
  have w4 : (Lit.int .u8 (h.r : Int)).wf = true := lit_wf rfl (by rw [m8]; omega)
  have := trod_struct_mk (enc := enc) (w := w) (base := base) (spare := spare) (held := held) (n := 1) (cs := [.int .u32 (h.s : Int), .int .u32 (h.d : Int), .int .u16 (h.p : Int), .int .u16 (h.q : Int), .int .u8 (h.r : Int)]) (xs := [(.lit (.int .u32 (h.s : Int)), []), (.lit (.int .u32 (h.d : Int)), []), (.lit (.int .u16 (h.p : Int)), []), (.lit (.int .u16 (h.q : Int)), []), (.lit (.int .u8 (h.r : Int)), [])]) Try.underlying25 (by simp [cells_hd])
    (by simp [cells_u8, cells_u16, cells_u32, DataW.trod, Try.underlying5, Try.underlying23, Try.underlying22, w0, w1, w2, w3, w4])
  exact ⟨2, by simpa [Value.cells] using this⟩
theorem open_bys {H : Type} {enc : TypeId × Value → H} {w : World} {base : Nat} {spare : Nat → Bool} {held : Bool} {r : Reach} {b0 : Nat} {v : Value} {d : DataW H} {p : List MemPlace}
    (hv : Value.okWide Try.prog w r b0 26 v) (h : DataW.Trod enc Try.prog w base spare held 26 v d p) : ∃ l : List Nat, SrcB w v l ∧ BdB l ∧ l.length ≤ maxLen := by
  obtain ⟨a0, len, cap, rfl⟩ := okWide_slice Try.underlying26 hv
  obtain ⟨fuel, hf⟩ := h
  rcases open_ints Try.underlying26 Try.underlying5 cells_u8 hf with ⟨hc, hx⟩ | ⟨a, len', cap', zs, hc, _, hl, hm, hz, hx, hcell, hwz⟩
  · simp [Value.cells] at hc
    obtain ⟨rfl, rfl, rfl⟩ := hc
    exact ⟨[], ⟨none, 0, rfl, Nat.le_refl _, fun h0 => by simp at h0⟩, fun s hs => (by cases hs), Nat.zero_le _⟩
  · simp [Value.cells] at hc
    obtain ⟨rfl, rfl, rfl⟩ := hc
    have hlz : len ≤ zs.length := by rw [hz]; split <;> omega
    have hlen : ((zs.take len).map Int.toNat).length = len := by simp; omega
    refine ⟨(zs.take len).map Int.toNat, ⟨some a, cap, by rw [hlen], by rw [hlen]; omega, fun h0 => ?_⟩, fun p hp => ?_, by rw [hlen]; omega⟩
    · rw [hlen] at h0
      obtain ⟨ab, ao, spot⟩ := a
      have hspot : spot = none := by simpa [Addr.add] using World.cell?_spot (hcell 0 (by omega))
      subst hspot
      refine ⟨ab, ao, rfl, fun k hk => ?_⟩
      rw [hlen] at hk
      have hck := hcell k (by omega)
      rw [Addr.add_lit] at hck
      have hgk : zs.getD k 0 = zs[k]'(by omega) := by simp [show k < zs.length by omega]
      obtain ⟨q, hq, _⟩ := wf_u8 (hwz _ (List.getElem_mem (show k < zs.length by omega)))
      rw [hck, hgk]
      simp only [List.getElem_map, List.getElem_take]
      rw [hq]; simp
    · rw [List.mem_map] at hp
      obtain ⟨n, hn, rfl⟩ := hp
      obtain ⟨q, rfl, hq⟩ := wf_u8 (hwz n (List.mem_of_mem_take hn))
      simpa using hq
theorem open_u32s {H : Type} {enc : TypeId × Value → H} {w : World} {base : Nat} {spare : Nat → Bool} {held : Bool} {r : Reach} {b0 : Nat} {v : Value} {d : DataW H} {p : List MemPlace}
    (hv : Value.okWide Try.prog w r b0 51 v) (h : DataW.Trod enc Try.prog w base spare held 51 v d p) : ∃ l : List Nat, SrcW w v l ∧ (∀ x ∈ l, x < 4294967296) ∧ l.length ≤ maxLen := by
  obtain ⟨a0, len, cap, rfl⟩ := okWide_slice Try.underlying51 hv
  obtain ⟨fuel, hf⟩ := h
  rcases open_ints Try.underlying51 Try.underlying22 cells_u32 hf with ⟨hc, hx⟩ | ⟨a, len', cap', zs, hc, _, hl, hm, hz, hx, hcell, hwz⟩
  · simp [Value.cells] at hc
    obtain ⟨rfl, rfl, rfl⟩ := hc
    exact ⟨[], ⟨none, 0, rfl, Nat.le_refl _, fun h0 => by simp at h0⟩, fun s hs => (by cases hs), Nat.zero_le _⟩
  · simp [Value.cells] at hc
    obtain ⟨rfl, rfl, rfl⟩ := hc
    have hlz : len ≤ zs.length := by rw [hz]; split <;> omega
    have hlen : ((zs.take len).map Int.toNat).length = len := by simp; omega
    refine ⟨(zs.take len).map Int.toNat, ⟨some a, cap, by rw [hlen], by rw [hlen]; omega, fun h0 => ?_⟩, fun p hp => ?_, by rw [hlen]; omega⟩
    · rw [hlen] at h0
      obtain ⟨ab, ao, spot⟩ := a
      have hspot : spot = none := by simpa [Addr.add] using World.cell?_spot (hcell 0 (by omega))
      subst hspot
      refine ⟨ab, ao, rfl, fun k hk => ?_⟩
      rw [hlen] at hk
      have hck := hcell k (by omega)
      rw [Addr.add_lit] at hck
      have hgk : zs.getD k 0 = zs[k]'(by omega) := by simp [show k < zs.length by omega]
      obtain ⟨q, hq, _⟩ := wf_u32 (hwz _ (List.getElem_mem (show k < zs.length by omega)))
      rw [hck, hgk]
      simp only [List.getElem_map, List.getElem_take]
      rw [hq]; simp
    · rw [List.mem_map] at hp
      obtain ⟨n, hn, rfl⟩ := hp
      obtain ⟨q, rfl, hq⟩ := wf_u32 (hwz n (List.mem_of_mem_take hn))
      simpa using hq
end Go.Proofs.Ytpgadbiohmofeab
