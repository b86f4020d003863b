/-
  The closures that are handed to climb; climb; cover; Of and Count of package expand.
-/
import Derived.Test.YtcjpjofoddpfhaaExPs2
import Derived.OneCell
namespace Go.Proofs.Ytcjpjofoddpfhaa.Xp
open Go.RowKit
set_option linter.unusedVariables false
set_option linter.unusedSimpArgs false

/-- The variable in block B counts. -/
def Tal (B : Nat) (w : World) (n : Nat) : Prop := w.heap[B]? = some (.cells #[.int .i64 (n : Int)] 3 (0, 0))
theorem Tal.on {B : Nat} {w w1 : World} {n : Nat} (h : Tal B w n) (hb : Below w.heap.size w w1) : Tal B w1 n := by
  unfold Tal at *
  rw [hb.block B (lt_of_block h)]; exact h
theorem Tal.alloc {B : Nat} {w : World} {n : Nat} (h : Tal B w n) (o : Obj) : Tal B (w.alloc o) n := h.on ((Below.refl _ _).alloc (Nat.le_refl _) o)
theorem tallyT (B b n k : Nat) (W : World) (h : Tal B W k) (hk : k < 4294967296) :
    Calls Try.prog 47 #[.agg #[.int .u16 (b : Nat), .int .i64 (n : Nat)], .pointer (some ⟨B, 0, none⟩)] W fun e W' => e = .returned (.tuple #[]) ∧ Tal B W' (k + 1) ∧ Below B W W' ∧ ∀ x, x < W.heap.size → x ≠ B → W'.heap[x]? = W.heap[x]? := by
  have hlt := lt_of_block h
  have cB : W.cell? ⟨B, 0, none⟩ = some (.int .i64 (k : Int)) := cell_of_one h
  have fB : W.frozen? ⟨B, 0, none⟩ = false := free_of_one h
  have HB : Hid (Tal B W k) := h
  clear h
  go_enter Try.func47, Try.ntmps47
  go_wp2
  go_end0
  have hz : (W.setCell ⟨B, 0, none⟩ (.int .i64 ((k : Int) + 1))).heap.size = W.heap.size := by simp
  refine ⟨rfl, ?_, ?_, ?_⟩
  · unfold Tal
    rw [Below.heap_alloc _ _ _ (by omega)]
    exact one_setCell HB.out
  · exact (Below.setCell (p := ⟨B, 0, none⟩) (Below.refl B W) (Nat.le_refl B) _).alloc (by omega) _
  · intro x hx hne
    rw [Below.heap_alloc _ _ _ (by omega), Below.heap_setCell _ _ _ _ hne]
set_option maxHeartbeats 1000000 in
theorem climbN (lo hi B : Nat) (k0 : Nat) (w : World) (h : lo ≤ hi) (hh : hi < 65536) (hM : Tal B w k0) (hl : k0 + 65536 ≤ 4294967296) :
    Calls Try.prog 46 #[.agg #[.int .u16 lo, .int .u16 hi], .func (.func 47) #[] #[.pointer (some ⟨B, 0, none⟩)]] w fun e w' => e = .returned (.tuple #[]) ∧ Tal B w' (k0 + (grd 65536 lo (hi + 1 - lo)).length) ∧ Below B w w' := by
  have hBlt : B < w.heap.size := lt_of_block hM
  have HM : Hid (Tal B w k0) := hM
  clear hM
  go_enter Try.func46, Try.ntmps46
  go_wp2
  go_loopw [4] (fun iv wr => ∃ (a : Nat) (pre : List (Nat × Nat)), a ≤ hi + 1 ∧ iv = .int .i64 (a : Int) ∧ Hid (wr.heap[w.heap.size]? = some (.cells #[.int .u16 (lo : Int), .int .u16 (hi : Int)] 33 (0, 0))) ∧ Hid (Gone lo hi a pre) ∧ Hid (Tal B wr (k0 + pre.length)) ∧ Hid (Below B w wr)) (fun iv _ => hi + 1 - (intOf iv).toNat)
  case atStart => exact ⟨lo, [], by omega, rfl, heap_alloc_new _ _, Gone.start lo hi hh, by show Tal B _ (k0 + 0); exact HM.out.alloc _, by show Below _ _ _; (repeat (first | assumption | exact Below.refl _ _ | refine Below.drew ?_ | refine bel_drewN ?_ _ | refine Below.setCell ?_ (by first | omega | (simp; done) | (simp; omega)) _ | refine Below.alloc ?_ (by first | omega | (simp; done) | (simp; omega)) _ | refine bel_of ?_ (by assumption)))⟩
  case round =>
    obtain ⟨a, pre, ha, rfl, hbox, hgo, hmet, hbl⟩ := hrel
    have y1 : wr.cell? ⟨w.heap.size, 1, none⟩ = some (.int .u16 (hi : Int)) := by simp [World.cell?, hbox.out]
    have hz : w.heap.size < wr.heap.size := lt_of_block hbox.out
    by_cases hle : a ≤ hi
    · have hle' : (a : Int) ≤ (hi : Int) := by omega
      have ha6 : (a : Int) < 65536 := by omega
      have ha0 : (0 : Int) ≤ (a : Int) := by omega
      have hst : Hid (Gone lo hi (a + 2 ^ mf a (hi + 1 - a) 16) (pre ++ [(a, 16 - mf a (hi + 1 - a) 16)])) := hgo.out.step hle
      have hln : Hid ((k0 + pre.length) < 4294967296) := by
        show _ < _
        have := hst.out.len
        simp at this ⊢
        omega
      obtain ⟨m1, m2⟩ := mf_bd hle
      have hsh := fun W => shortT a hi hle hh W
      generalize mf a (hi + 1 - a) 16 = f at *
      obtain ⟨L, hL⟩ : ∃ L : Nat, L = 16 - f := ⟨_, rfl⟩
      rw [← hL] at hst hsh
      have hL16 : L ≤ 16 := by omega
      have hf : Hid (f = 16 - L) := by show _ = _; omega
      have hmk : Hid (mk (16 - L) + 1 = 2 ^ f) := by
        show _ = _
        rw [← hf.out]
        have := two_pos f
        unfold mk; omega
      have hmk2 : Hid (a + (mk (16 - L) + 1) ≤ hi + 1) := by show _ ≤ _; rw [hmk.out]; exact m2
      clear m1 m2 hL
      go_wp2_with (fail)
      refine (hsh _).mono ?_
      rintro e w1 ⟨rfl, hb1⟩
      have hz1 := hb1.size
      have hmet1 : Hid (Tal B w1 (k0 + pre.length)) := hmet.out.on hb1
      have hbox1 : Hid (w1.heap[w.heap.size]? = some (.cells #[.int .u16 (lo : Int), .int .u16 (hi : Int)] 33 (0, 0))) := by show _ = _; rw [hb1.block _ hz]; exact hbox.out
      have hbl1 : Hid (Below B w w1) := hbl.out.trans (hb1.mono (by omega))
      clear hb1 hbox hmet hbl y1 hsh
      go_wp2_with (fail)
      refine (tallyT B a L (k0 + pre.length) _ (hmet1.out.alloc _) hln.out).mono ?_
      rintro e w2 ⟨rfl, hmet2, hk2⟩
      have hbk : w2.heap[w1.heap.size]? = some (.cells #[.int .u16 (a : Int), .int .i64 (L : Int)] 85 (0, 0)) := (by rw [hk2.2 _ (by simp) (by omega)]; exact heap_alloc_new _ _)
      have t1 : w2.cell? ⟨w1.heap.size, 1, none⟩ = some (.int .i64 (L : Int)) := by simp [World.cell?, hbk]
      have hbox2 : Hid (w2.heap[w.heap.size]? = some (.cells #[.int .u16 (lo : Int), .int .u16 (hi : Int)] 33 (0, 0))) := (by show _ = _; rw [hk2.2 _ (by simp; omega) (by omega), Below.heap_alloc _ _ _ (by omega)]; exact hbox1.out)
      have hbl2 : Hid (Below B w w2) := (hbl1.out.alloc (by omega) _).trans hk2.1
      have HMet : Hid (Tal B w2 (k0 + pre.length + 1)) := hmet2
      have hmkl : (mk (16 - L) : Int) < 65536 := by have := mk_lt (show 16 - L ≤ 16 by omega); omega
      have hmk0 : (0 : Int) ≤ (mk (16 - L) : Int) := by omega
      clear hbk hk2 hmet2 hmet1 hbox1 hbl1
      go_wp2_with (go_at_call 70; refine (tailT L hL16 _).mono ?_; rintro e w' ⟨rfl, hw⟩; obtain rfl := hw.symm; clear hw)
      go_roundw
      case rel => exact ⟨a + 2 ^ f, pre ++ [(a, L)], by rw [← hmk.out]; exact hmk2.out, by rw [← hmk.out]; go_num, hbox2.out, hst.out, by show Tal B _ _; rw [List.length_append]; exact HMet.out, hbl2.out⟩
      case measure => simp [intOf]; have := hmk2.out; omega
    · obtain rfl : a = hi + 1 := by omega
      have hle' : ¬ ((hi + 1 : Nat) : Int) ≤ (hi : Int) := by omega
      have hle2 : (hi : Int) < ((hi + 1 : Nat) : Int) := by omega
      have e := hgo.out.done (by omega)
      have hfin : Hid (Tal B wr (k0 + (grd 65536 lo (hi + 1 - lo)).length)) := by show Tal B wr (k0 + (grd 65536 lo (hi + 1 - lo)).length); rw [← e]; exact hmet.out
      clear e
      go_wp2
      go_end0
      exact ⟨rfl, hfin.out, hbl.out⟩
end Go.Proofs.Ytcjpjofoddpfhaa.Xp
