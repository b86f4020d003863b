/-
  What lex.All answers, as propositions (proved of the code elsewhere); the document's examples (awake). Written by tools/mkLxK.py.
-/
import Derived.Test.YtehedlgdencboabGreatDoorLxIs
import Derived.Test.YtehedlgdencboabGreatDoorLxU
import Derived.Test.YtehedlgdencboabGreatDoorLxPlE
namespace Go.Proofs.YtehedlgdencboabGreatDoor
open Go.RowKit
set_option linter.unusedVariables false
set_option linter.unusedSimpArgs false

def AllOk : Prop := ∀ (s : ByteArray) (w : World), s.size ≤ 16777216 → Hnd w → (lexT s).2.e = 0 → Calls Tryz.prog 57 #[.string s] w fun e w' => ∃ v' : Value, e = .returned (.tuple #[v', .nilIface]) ∧ RowT w' w.heap.size v' (lexT s).1 ∧ Below w.heap.size w w'
def AllBad : Prop := ∀ (s : ByteArray) (w : World), s.size ≤ 16777216 → Hnd w → (lexT s).2.e ≠ 0 → Calls Tryz.prog 57 #[.string s] w fun e w' => ∃ (v' : Value) (F : Nat), e = .returned (.tuple #[v', .iface 72 (.pointer (some ⟨F, 0, none⟩))]) ∧ RowT w' w.heap.size v' [] ∧ Flt w' F ((lexT s).2.e : Int) ((lexT s).2.l : Int) ((lexT s).2.c : Int) ∧ w.heap.size ≤ F ∧ some F ≠ v'.ownBlock ∧ Below w.heap.size w w'
theorem bytes_of {b : ByteArray} {l : List Nat} (h : b.data.toList.map (·.toNat) = l) : b = ⟨(l.map UInt8.ofNat).toArray⟩ := by
  apply ByteArray.ext
  rw [← h, List.map_map]
  have : (UInt8.ofNat ∘ fun x : UInt8 => x.toNat) = id := by funext x; simp
  rw [this]; simp
theorem tk_of {t : Tk} {k : Nat} {b : List Nat} {v l c : Nat} (h : flatTk t = (k, b, v, l, c)) : t = ⟨k, ⟨(b.map UInt8.ofNat).toArray⟩, v, l, c⟩ := by
  obtain ⟨tk, tt, tv, tl, tc⟩ := t
  unfold flatTk at h
  simp only [Prod.mk.injEq] at h
  obtain ⟨rfl, hb, rfl, rfl, rfl⟩ := h
  rw [bytes_of hb]
theorem at_of {l : List Tk} {m : List (Nat × List Nat × Nat × Nat × Nat)} (h : l.map flatTk = m) {i : Nat} {x : Nat × List Nat × Nat × Nat × Nat} (hx : m[i]? = some x) : l[i]? = some ⟨x.1, ⟨(x.2.1.map UInt8.ofNat).toArray⟩, x.2.2.1, x.2.2.2.1, x.2.2.2.2⟩ := by
  rw [← h, List.getElem?_map] at hx
  cases hl : l[i]? with
  | none => rw [hl] at hx; cases hx
  | some t =>
    rw [hl] at hx
    have e : flatTk t = x := by simpa using hx
    rw [tk_of (t := t) (k := x.1) (b := x.2.1) (v := x.2.2.1) (l := x.2.2.2.1) (c := x.2.2.2.2) (by rw [e])]
theorem exA_eq : lexT exA = allF exA exA.size 1 0 := lexT_is exA (by decide)
theorem exB_eq : lexT exB = allF exB exB.size 1 0 := lexT_is exB (by decide)
theorem exA_len : (lexT exA).1.length = 15 := by
  have := congrArg List.length exA_is.2
  rw [exA_eq]; simpa using this
theorem exA_at0 : (lexT exA).1[0]? = some ⟨1, ⟨#[114, 117, 108, 101]⟩, 0, 1, 1⟩ := by rw [exA_eq]; exact at_of exA_is.2 (i := 0) rfl
theorem exA_at1 : (lexT exA).1[1]? = some ⟨2, ⟨#[55]⟩, 7, 1, 6⟩ := by rw [exA_eq]; exact at_of exA_is.2 (i := 1) rfl
theorem exA_at14 : (lexT exA).1[14]? = some ⟨4, ⟨#[]⟩, 0, 2, 2⟩ := by rw [exA_eq]; exact at_of exA_is.2 (i := 14) rfl
end Go.Proofs.YtehedlgdencboabGreatDoor
