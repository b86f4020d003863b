/-
  What lex.All answers, as propositions (proved of the code elsewhere); the document's examples (awake). Written by tools/mkLxK.py.
-/
import Derived.Test.YtpbbeemlaigimaaDoorLxIs
import Derived.Test.YtpbbeemlaigimaaDoorLxU
import Derived.Test.YtpbbeemlaigimaaDoorLxPlE
namespace Go.Proofs.YtpbbeemlaigimaaDoor
open Go.RowKit
set_option linter.unusedVariables false
set_option linter.unusedSimpArgs false

def AllOk : Prop := ∀ (s : ByteArray) (w : World), s.size ≤ 16777216 → Hnd w → (lexT s).2.e = 0 → Calls Tryd.prog 10 #[.string s] w fun e w' => ∃ v' : Value, e = .returned (.tuple #[v', .nilIface]) ∧ RowT w' w.heap.size v' (lexT s).1 ∧ Below w.heap.size w w'
def AllBad : Prop := ∀ (s : ByteArray) (w : World), s.size ≤ 16777216 → Hnd w → (lexT s).2.e ≠ 0 → Calls Tryd.prog 10 #[.string s] w fun e w' => ∃ (v' : Value) (F : Nat), e = .returned (.tuple #[v', .iface 59 (.pointer (some ⟨F, 0, none⟩))]) ∧ RowT w' w.heap.size v' [] ∧ Flt w' F ((lexT s).2.e : Int) ((lexT s).2.l : Int) ((lexT s).2.c : Int) ∧ w.heap.size ≤ F ∧ some F ≠ v'.ownBlock ∧ Below w.heap.size w w'
theorem bytes_of {b : ByteArray} {l : List Nat} (h : b.data.toList.map (·.toNat) = l) : b = ⟨(l.map UInt8.ofNat).toArray⟩ := by
  apply ByteArray.ext
  rw [← h, List.map_map]
  have : (UInt8.ofNat ∘ fun x : UInt8 => x.toNat) = id := by funext x; simp
  rw [this]; simp
theorem tk_of {t : Tk} {k : Nat} {b : List Nat} {v l c : Nat} (h : flatTk t = (k, b, v, l, c)) : t = ⟨k, ⟨(b.map UInt8.ofNat).toArray⟩, v, l, c⟩ := by
  obtain ⟨tk, tt, tv, tl, tc⟩ := t
  unfold flatTk at h
  simp only [Prod.mk.injEq] at h
  obtain ⟨rfl, hb, rfl, rfl, rfl⟩ := h
  rw [bytes_of hb]
theorem at_of {l : List Tk} {m : List (Nat × List Nat × Nat × Nat × Nat)} (h : l.map flatTk = m) {i : Nat} {x : Nat × List Nat × Nat × Nat × Nat} (hx : m[i]? = some x) : l[i]? = some ⟨x.1, ⟨(x.2.1.map UInt8.ofNat).toArray⟩, x.2.2.1, x.2.2.2.1, x.2.2.2.2⟩ := by
  rw [← h, List.getElem?_map] at hx
  cases hl : l[i]? with
  | none => rw [hl] at hx; cases hx
  | some t =>
    rw [hl] at hx
    have e : flatTk t = x := by simpa using hx
    rw [tk_of (t := t) (k := x.1) (b := x.2.1) (v := x.2.2.1) (l := x.2.2.2.1) (c := x.2.2.2.2) (by rw [e])]
theorem exA_eq : lexT exA = allF exA exA.size 1 0 := lexT_is exA (by decide)
theorem exB_eq : lexT exB = allF exB exB.size 1 0 := lexT_is exB (by decide)
theorem exA_len : (lexT exA).1.length = 15 := by
  have := congrArg List.length exA_is.2
  rw [exA_eq]; simpa using this
theorem exA_at0 : (lexT exA).1[0]? = some ⟨1, ⟨#[114, 117, 108, 101]⟩, 0, 1, 1⟩ := by rw [exA_eq]; exact at_of exA_is.2 (i := 0) rfl
theorem exA_at1 : (lexT exA).1[1]? = some ⟨2, ⟨#[55]⟩, 7, 1, 6⟩ := by rw [exA_eq]; exact at_of exA_is.2 (i := 1) rfl
theorem exA_at14 : (lexT exA).1[14]? = some ⟨4, ⟨#[]⟩, 0, 2, 2⟩ := by rw [exA_eq]; exact at_of exA_is.2 (i := 14) rfl
set_option maxRecDepth 20000 in
set_option maxHeartbeats 4000000 in
theorem awakeL (hO : AllOk) (hB : AllBad) (w : World) (hg0 : Hnd w) : Calls Tryd.prog 14 #[] w fun e w' => e = .returned (.bool true) ∧ Below w.heap.size w w' := by
  have kA : ∀ W, Hnd W → Calls Tryd.prog 10 #[.string ⟨#[114, 117, 108, 101, 32, 55, 58, 32, 49, 48, 46, 48, 46, 48, 46, 48, 47, 56, 32, 35, 32, 120, 10, 42]⟩] W fun e w' => ∃ v' : Value, e = .returned (.tuple #[v', .nilIface]) ∧ RowT w' W.heap.size v' (lexT exA).1 ∧ Below W.heap.size W w' := fun W hgW => hO exA W (by decide) hgW (by rw [exA_eq, exA_is.1])
  have kB : ∀ W, Hnd W → Calls Tryd.prog 10 #[.string ⟨#[97, 45, 98]⟩] W fun e w' => ∃ (v' : Value) (F : Nat), e = .returned (.tuple #[v', .iface 59 (.pointer (some ⟨F, 0, none⟩))]) ∧ RowT w' W.heap.size v' [] ∧ Flt w' F 90 1 2 ∧ W.heap.size ≤ F ∧ some F ≠ v'.ownBlock ∧ Below W.heap.size W w' := fun W hgW => by
    have h := hB exB W (by decide) hgW (by rw [exB_eq, exB_is]; decide)
    rw [exB_eq, exB_is] at h
    exact h
  have HG : Hid (Hnd w) := hg0
  clear hO hB hg0
  go_enter Tryd.func14, Tryd.ntmps14
  go_wp2_with (fail)
  refine (kA _ HG.out).mono ?_
  rintro e w1 ⟨v1, rfl, hrow1, hb1⟩
  obtain ⟨ad, cap, rfl, hcap, hat⟩ := hrow1.form
  obtain ⟨l, hl⟩ : ∃ l, l = (lexT exA).1 := ⟨_, rfl⟩
  have hlen : l.length = 15 := by rw [hl]; exact exA_len
  have z0 : l[0]? = some ⟨1, ⟨#[114, 117, 108, 101]⟩, 0, 1, 1⟩ := by rw [hl]; exact exA_at0
  have z1 : l[1]? = some ⟨2, ⟨#[55]⟩, 7, 1, 6⟩ := by rw [hl]; exact exA_at1
  have z14 : l[14]? = some ⟨4, ⟨#[]⟩, 0, 2, 2⟩ := by rw [hl]; exact exA_at14
  rw [← hl] at hat hcap ⊢
  rw [hlen] at hcap ⊢
  obtain ⟨g, rfl, _, hgl, hc1⟩ := hat (by omega)
  have x0_0 : w1.cell? ⟨g, 0, none⟩ = some (.int .i64 1) := by have := hc1 0 (by omega) 0 (by decide); rw [show l[0]'(by omega) = ⟨1, ⟨#[114, 117, 108, 101]⟩, 0, 1, 1⟩ from Option.some.inj ((List.getElem?_eq_getElem (by omega)).symm.trans z0)] at this; exact this
  have x0_1 : w1.cell? ⟨g, 1, none⟩ = some (.string ⟨#[114, 117, 108, 101]⟩) := by have := hc1 0 (by omega) 1 (by decide); rw [show l[0]'(by omega) = ⟨1, ⟨#[114, 117, 108, 101]⟩, 0, 1, 1⟩ from Option.some.inj ((List.getElem?_eq_getElem (by omega)).symm.trans z0)] at this; exact this
  have x0_2 : w1.cell? ⟨g, 2, none⟩ = some (.int .u32 0) := by have := hc1 0 (by omega) 2 (by decide); rw [show l[0]'(by omega) = ⟨1, ⟨#[114, 117, 108, 101]⟩, 0, 1, 1⟩ from Option.some.inj ((List.getElem?_eq_getElem (by omega)).symm.trans z0)] at this; exact this
  have x0_3 : w1.cell? ⟨g, 3, none⟩ = some (.int .i64 1) := by have := hc1 0 (by omega) 3 (by decide); rw [show l[0]'(by omega) = ⟨1, ⟨#[114, 117, 108, 101]⟩, 0, 1, 1⟩ from Option.some.inj ((List.getElem?_eq_getElem (by omega)).symm.trans z0)] at this; exact this
  have x0_4 : w1.cell? ⟨g, 4, none⟩ = some (.int .i64 1) := by have := hc1 0 (by omega) 4 (by decide); rw [show l[0]'(by omega) = ⟨1, ⟨#[114, 117, 108, 101]⟩, 0, 1, 1⟩ from Option.some.inj ((List.getElem?_eq_getElem (by omega)).symm.trans z0)] at this; exact this
  have x1_0 : w1.cell? ⟨g, 5, none⟩ = some (.int .i64 2) := by have := hc1 1 (by omega) 0 (by decide); rw [show l[1]'(by omega) = ⟨2, ⟨#[55]⟩, 7, 1, 6⟩ from Option.some.inj ((List.getElem?_eq_getElem (by omega)).symm.trans z1)] at this; exact this
  have x1_1 : w1.cell? ⟨g, 6, none⟩ = some (.string ⟨#[55]⟩) := by have := hc1 1 (by omega) 1 (by decide); rw [show l[1]'(by omega) = ⟨2, ⟨#[55]⟩, 7, 1, 6⟩ from Option.some.inj ((List.getElem?_eq_getElem (by omega)).symm.trans z1)] at this; exact this
  have x1_2 : w1.cell? ⟨g, 7, none⟩ = some (.int .u32 7) := by have := hc1 1 (by omega) 2 (by decide); rw [show l[1]'(by omega) = ⟨2, ⟨#[55]⟩, 7, 1, 6⟩ from Option.some.inj ((List.getElem?_eq_getElem (by omega)).symm.trans z1)] at this; exact this
  have x1_3 : w1.cell? ⟨g, 8, none⟩ = some (.int .i64 1) := by have := hc1 1 (by omega) 3 (by decide); rw [show l[1]'(by omega) = ⟨2, ⟨#[55]⟩, 7, 1, 6⟩ from Option.some.inj ((List.getElem?_eq_getElem (by omega)).symm.trans z1)] at this; exact this
  have x1_4 : w1.cell? ⟨g, 9, none⟩ = some (.int .i64 6) := by have := hc1 1 (by omega) 4 (by decide); rw [show l[1]'(by omega) = ⟨2, ⟨#[55]⟩, 7, 1, 6⟩ from Option.some.inj ((List.getElem?_eq_getElem (by omega)).symm.trans z1)] at this; exact this
  have x14_0 : w1.cell? ⟨g, 70, none⟩ = some (.int .i64 4) := by have := hc1 14 (by omega) 0 (by decide); rw [show l[14]'(by omega) = ⟨4, ⟨#[]⟩, 0, 2, 2⟩ from Option.some.inj ((List.getElem?_eq_getElem (by omega)).symm.trans z14)] at this; exact this
  have x14_1 : w1.cell? ⟨g, 71, none⟩ = some (.string ⟨#[]⟩) := by have := hc1 14 (by omega) 1 (by decide); rw [show l[14]'(by omega) = ⟨4, ⟨#[]⟩, 0, 2, 2⟩ from Option.some.inj ((List.getElem?_eq_getElem (by omega)).symm.trans z14)] at this; exact this
  have x14_2 : w1.cell? ⟨g, 72, none⟩ = some (.int .u32 0) := by have := hc1 14 (by omega) 2 (by decide); rw [show l[14]'(by omega) = ⟨4, ⟨#[]⟩, 0, 2, 2⟩ from Option.some.inj ((List.getElem?_eq_getElem (by omega)).symm.trans z14)] at this; exact this
  have x14_3 : w1.cell? ⟨g, 73, none⟩ = some (.int .i64 2) := by have := hc1 14 (by omega) 3 (by decide); rw [show l[14]'(by omega) = ⟨4, ⟨#[]⟩, 0, 2, 2⟩ from Option.some.inj ((List.getElem?_eq_getElem (by omega)).symm.trans z14)] at this; exact this
  have x14_4 : w1.cell? ⟨g, 74, none⟩ = some (.int .i64 2) := by have := hc1 14 (by omega) 4 (by decide); rw [show l[14]'(by omega) = ⟨4, ⟨#[]⟩, 0, 2, 2⟩ from Option.some.inj ((List.getElem?_eq_getElem (by omega)).symm.trans z14)] at this; exact this
  have HB1 : Hid (Below w.heap.size w w1) := hb1
  have HG1 : Hid (Hnd w1) := HG.out.on hb1
  clear hrow1 hat hc1 hb1 hl z0 z1 z14 hlen kA
  go_wp2_with (fail)
  refine (kB _ HG1.out).mono ?_
  rintro e w2 ⟨v2, F, rfl, hrow2, hF2, _, _, hb2⟩
  have x0_0 := cell_on1 hb2 x0_0
  have x0_1 := cell_on1 hb2 x0_1
  have x0_2 := cell_on1 hb2 x0_2
  have x0_3 := cell_on1 hb2 x0_3
  have x0_4 := cell_on1 hb2 x0_4
  have x1_0 := cell_on1 hb2 x1_0
  have x1_1 := cell_on1 hb2 x1_1
  have x1_2 := cell_on1 hb2 x1_2
  have x1_3 := cell_on1 hb2 x1_3
  have x1_4 := cell_on1 hb2 x1_4
  have x14_0 := cell_on1 hb2 x14_0
  have x14_1 := cell_on1 hb2 x14_1
  have x14_2 := cell_on1 hb2 x14_2
  have x14_3 := cell_on1 hb2 x14_3
  have x14_4 := cell_on1 hb2 x14_4
  have hgl2 : g < w2.heap.size := by have := hb2.size; omega
  have HB2 : Hid (Below w.heap.size w w2) := HB1.out.trans (hb2.mono HB1.out.size)
  have hI := keepIs F 90 1 2 w2 (by decide) (HG1.out.on hb2) hF2
  clear hrow2 hF2 hb2 kB
  go_wp2_with (fail)
  refine hI.mono ?_
  rintro e w3 ⟨rfl, hb3⟩
  have x0_0 := cell_on1 hb3 x0_0
  have x0_1 := cell_on1 hb3 x0_1
  have x0_2 := cell_on1 hb3 x0_2
  have x0_3 := cell_on1 hb3 x0_3
  have x0_4 := cell_on1 hb3 x0_4
  have x1_0 := cell_on1 hb3 x1_0
  have x1_1 := cell_on1 hb3 x1_1
  have x1_2 := cell_on1 hb3 x1_2
  have x1_3 := cell_on1 hb3 x1_3
  have x1_4 := cell_on1 hb3 x1_4
  have x14_0 := cell_on1 hb3 x14_0
  have x14_1 := cell_on1 hb3 x14_1
  have x14_2 := cell_on1 hb3 x14_2
  have x14_3 := cell_on1 hb3 x14_3
  have x14_4 := cell_on1 hb3 x14_4
  have HB3 : Hid (Below w.heap.size w w3) := HB2.out.trans (hb3.mono HB2.out.size)
  have hgl3 : g < w3.heap.size := by have := hb3.size; omega
  clear hb3 hI
  go_wp2_with (fail)
  go_ret
  exact ⟨ret_same (by first | rfl | simp), HB3.out⟩
end Go.Proofs.YtpbbeemlaigimaaDoor
