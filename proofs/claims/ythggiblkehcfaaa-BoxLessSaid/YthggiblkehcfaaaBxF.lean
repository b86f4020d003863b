/-
  The five fields as an array of five structs of five functions.
-/
import Derived.Test.YthggiblkehcfaaaBxK
import Derived.Test.YthggiblkehcfaaaBxW
import Derived.Laws.EntriesVeiled
namespace Go.Proofs.Ythggiblkehcfaaa
open Go.RowKit
set_option linter.unusedVariables false
set_option linter.unusedSimpArgs false

theorem srcX (w : World) :
    Calls Try.prog 36 #[] w fun e w' => e = .returned (.agg #[.func (.func 44) #[] #[], .func (.func 46) #[] #[], .func (.func 48) #[] #[], .func (.func 49) #[] #[], .func (.func 51) #[] #[]]) ∧ Below w.heap.size w w' := by
  go_enter Try.func36, Try.ntmps36
  go_wp2
  exact bodyPost_ret (v := .agg #[.func (.func 44) #[] #[], .func (.func 46) #[] #[], .func (.func 48) #[] #[], .func (.func 49) #[] #[], .func (.func 51) #[] #[]]) (by simp [results, Try.results36, go_sem]) rfl ⟨rfl, by (repeat (first | assumption | exact Below.refl _ _ | refine Below.drew ?_ | refine bel_drewN ?_ _ | refine Below.setCell ?_ (by first | omega | (simp; done) | (simp; omega)) _ | refine Below.alloc ?_ (by first | omega | (simp; done) | (simp; omega)) _ | refine bel_of ?_ (by assumption)))⟩
theorem dstX (w : World) :
    Calls Try.prog 37 #[] w fun e w' => e = .returned (.agg #[.func (.func 55) #[] #[], .func (.func 56) #[] #[], .func (.func 57) #[] #[], .func (.func 58) #[] #[], .func (.func 59) #[] #[]]) ∧ Below w.heap.size w w' := by
  go_enter Try.func37, Try.ntmps37
  go_wp2
  exact bodyPost_ret (v := .agg #[.func (.func 55) #[] #[], .func (.func 56) #[] #[], .func (.func 57) #[] #[], .func (.func 58) #[] #[], .func (.func 59) #[] #[]]) (by simp [results, Try.results37, go_sem]) rfl ⟨rfl, by (repeat (first | assumption | exact Below.refl _ _ | refine Below.drew ?_ | refine bel_drewN ?_ _ | refine Below.setCell ?_ (by first | omega | (simp; done) | (simp; omega)) _ | refine Below.alloc ?_ (by first | omega | (simp; done) | (simp; omega)) _ | refine bel_of ?_ (by assumption)))⟩
theorem sportX (w : World) :
    Calls Try.prog 38 #[] w fun e w' => e = .returned (.agg #[.func (.func 61) #[] #[], .func (.func 63) #[] #[], .func (.func 65) #[] #[], .func (.func 66) #[] #[], .func (.func 68) #[] #[]]) ∧ Below w.heap.size w w' := by
  go_enter Try.func38, Try.ntmps38
  go_wp2
  exact bodyPost_ret (v := .agg #[.func (.func 61) #[] #[], .func (.func 63) #[] #[], .func (.func 65) #[] #[], .func (.func 66) #[] #[], .func (.func 68) #[] #[]]) (by simp [results, Try.results38, go_sem]) rfl ⟨rfl, by (repeat (first | assumption | exact Below.refl _ _ | refine Below.drew ?_ | refine bel_drewN ?_ _ | refine Below.setCell ?_ (by first | omega | (simp; done) | (simp; omega)) _ | refine Below.alloc ?_ (by first | omega | (simp; done) | (simp; omega)) _ | refine bel_of ?_ (by assumption)))⟩
theorem dportX (w : World) :
    Calls Try.prog 39 #[] w fun e w' => e = .returned (.agg #[.func (.func 72) #[] #[], .func (.func 73) #[] #[], .func (.func 74) #[] #[], .func (.func 75) #[] #[], .func (.func 76) #[] #[]]) ∧ Below w.heap.size w w' := by
  go_enter Try.func39, Try.ntmps39
  go_wp2
  exact bodyPost_ret (v := .agg #[.func (.func 72) #[] #[], .func (.func 73) #[] #[], .func (.func 74) #[] #[], .func (.func 75) #[] #[], .func (.func 76) #[] #[]]) (by simp [results, Try.results39, go_sem]) rfl ⟨rfl, by (repeat (first | assumption | exact Below.refl _ _ | refine Below.drew ?_ | refine bel_drewN ?_ _ | refine Below.setCell ?_ (by first | omega | (simp; done) | (simp; omega)) _ | refine Below.alloc ?_ (by first | omega | (simp; done) | (simp; omega)) _ | refine bel_of ?_ (by assumption)))⟩
theorem protoX (w : World) :
    Calls Try.prog 40 #[] w fun e w' => e = .returned (.agg #[.func (.func 78) #[] #[], .func (.func 80) #[] #[], .func (.func 82) #[] #[], .func (.func 83) #[] #[], .func (.func 85) #[] #[]]) ∧ Below w.heap.size w w' := by
  go_enter Try.func40, Try.ntmps40
  go_wp2
  exact bodyPost_ret (v := .agg #[.func (.func 78) #[] #[], .func (.func 80) #[] #[], .func (.func 82) #[] #[], .func (.func 83) #[] #[], .func (.func 85) #[] #[]]) (by simp [results, Try.results40, go_sem]) rfl ⟨rfl, by (repeat (first | assumption | exact Below.refl _ _ | refine Below.drew ?_ | refine bel_drewN ?_ _ | refine Below.setCell ?_ (by first | omega | (simp; done) | (simp; omega)) _ | refine Below.alloc ?_ (by first | omega | (simp; done) | (simp; omega)) _ | refine bel_of ?_ (by assumption)))⟩
theorem fieldsX (w : World) :
    Calls Try.prog 28 #[] w fun e w' => e = .returned (.agg #[.func (.func 44) #[] #[], .func (.func 46) #[] #[], .func (.func 48) #[] #[], .func (.func 49) #[] #[], .func (.func 51) #[] #[], .func (.func 55) #[] #[], .func (.func 56) #[] #[], .func (.func 57) #[] #[], .func (.func 58) #[] #[], .func (.func 59) #[] #[], .func (.func 61) #[] #[], .func (.func 63) #[] #[], .func (.func 65) #[] #[], .func (.func 66) #[] #[], .func (.func 68) #[] #[], .func (.func 72) #[] #[], .func (.func 73) #[] #[], .func (.func 74) #[] #[], .func (.func 75) #[] #[], .func (.func 76) #[] #[], .func (.func 78) #[] #[], .func (.func 80) #[] #[], .func (.func 82) #[] #[], .func (.func 83) #[] #[], .func (.func 85) #[] #[]]) ∧ Below w.heap.size w w' := by
  go_enter Try.func28, Try.ntmps28
  go_wp2_with (fail)
  refine (srcX _).mono ?_
  rintro e w1 ⟨rfl, hb1⟩
  go_wp2_with (fail)
  refine (dstX _).mono ?_
  rintro e w2 ⟨rfl, hb2⟩
  go_wp2_with (fail)
  refine (sportX _).mono ?_
  rintro e w3 ⟨rfl, hb3⟩
  go_wp2_with (fail)
  refine (dportX _).mono ?_
  rintro e w4 ⟨rfl, hb4⟩
  go_wp2_with (fail)
  refine (protoX _).mono ?_
  rintro e w5 ⟨rfl, hb5⟩
  have hz1 := hb1.size
  have hz2 := hb2.size
  have hz3 := hb3.size
  have hz4 := hb4.size
  have hz5 := hb5.size
  simp at hz1
  have hK : w5.heap[w.heap.size]? = some (.cells #[.nilFunc, .nilFunc, .nilFunc, .nilFunc, .nilFunc, .nilFunc, .nilFunc, .nilFunc, .nilFunc, .nilFunc, .nilFunc, .nilFunc, .nilFunc, .nilFunc, .nilFunc, .nilFunc, .nilFunc, .nilFunc, .nilFunc, .nilFunc, .nilFunc, .nilFunc, .nilFunc, .nilFunc, .nilFunc] 56 (0, 0)) := blk_on (blk_on (blk_on (blk_on (blk_on (blk_new w _) hb1) hb2) hb3) hb4) hb5
  have hbl : Hid (Below w.heap.size w w5) := ((((((Below.refl _ w).alloc (Nat.le_refl _) _).trans (hb1.mono (by simp))).trans (hb2.mono (by omega))).trans (hb3.mono (by omega))).trans (hb4.mono (by omega))).trans (hb5.mono (by omega))
  clear hb1 hb2 hb3 hb4 hb5
  go_wp2_with (refine wpList_store_blk rfl 56 (.tmp 0) (.tmp 6) rfl w.heap.size 0 #[.func (.func 44) #[] #[], .func (.func 46) #[] #[], .func (.func 48) #[] #[], .func (.func 49) #[] #[], .func (.func 51) #[] #[], .func (.func 55) #[] #[], .func (.func 56) #[] #[], .func (.func 57) #[] #[], .func (.func 58) #[] #[], .func (.func 59) #[] #[], .func (.func 61) #[] #[], .func (.func 63) #[] #[], .func (.func 65) #[] #[], .func (.func 66) #[] #[], .func (.func 68) #[] #[], .func (.func 72) #[] #[], .func (.func 73) #[] #[], .func (.func 74) #[] #[], .func (.func 75) #[] #[], .func (.func 76) #[] #[], .func (.func 78) #[] #[], .func (.func 80) #[] #[], .func (.func 82) #[] #[], .func (.func 83) #[] #[], .func (.func 85) #[] #[]] #[.func (.func 44) #[] #[], .func (.func 46) #[] #[], .func (.func 48) #[] #[], .func (.func 49) #[] #[], .func (.func 51) #[] #[], .func (.func 55) #[] #[], .func (.func 56) #[] #[], .func (.func 57) #[] #[], .func (.func 58) #[] #[], .func (.func 59) #[] #[], .func (.func 61) #[] #[], .func (.func 63) #[] #[], .func (.func 65) #[] #[], .func (.func 66) #[] #[], .func (.func 68) #[] #[], .func (.func 72) #[] #[], .func (.func 73) #[] #[], .func (.func 74) #[] #[], .func (.func 75) #[] #[], .func (.func 76) #[] #[], .func (.func 78) #[] #[], .func (.func 80) #[] #[], .func (.func 82) #[] #[], .func (.func 83) #[] #[], .func (.func 85) #[] #[]] rfl rfl 56 _ hK (Nat.le_refl _) rfl (by kernel_rfl) rfl ?_; intro w6 h6 ho6)
  exact bodyPost_ret (results_blk Try.results28 rfl h6 Try.underlying56 rfl (by kernel_rfl)) rfl ⟨rfl, hbl.out.trans (ho6.below (Nat.le_refl _))⟩
end Go.Proofs.Ythggiblkehcfaaa
