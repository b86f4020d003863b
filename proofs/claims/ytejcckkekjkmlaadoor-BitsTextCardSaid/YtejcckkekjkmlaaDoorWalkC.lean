/-
  What Text of package bits, and of the document's answer, hands back: n bytes, each the sign of a bit; nothing that was there before the call is touched.
-/
import Derived.Test.YtejcckkekjkmlaaDoorWalkB
import Derived.Laws.BytesArg
import Derived.Laws.Concat
namespace Go.Proofs.YtejcckkekjkmlaaDoor
open Go.RowKit

/-- The signs of the first k bits, as numbers. -/
def signs (a k : Nat) : List Int := (List.range k).map fun j => 48 + (tb a j : Int)
theorem signs_length (a k : Nat) : (signs a k).length = k := by simp [signs]
theorem signs_succ (a k : Nat) : signs a (k + 1) = signs a k ++ [48 + (tb a k : Int)] := by simp [signs, List.range_succ]
theorem signs_at (a n j : Nat) (h : j < n) : (signs a n).getD j 0 = 48 + (tb a j : Int) := by simp [signs, h]
/-- The row of n bytes whose first k are signs. -/
def part (a n k : Nat) : List Value := (signs a k).map (Value.int .u8) ++ List.replicate (n - k) (.int .u8 0)
theorem part_zero (a n : Nat) : part a n 0 = List.replicate n (.int .u8 0) := by simp [part, signs]
theorem part_set (a n k : Nat) (h : k < n) : (part a n k).set k (.int .u8 (48 + (tb a k : Int))) = part a n (k + 1) := by
  unfold part
  rw [List.set_append_right _ _ (by simp [signs_length]), signs_succ]
  simp only [List.length_map, signs_length, Nat.sub_self]
  rw [show n - k = (n - (k + 1)) + 1 by omega, List.replicate_succ, List.set_cons_zero]
  simp
theorem part_all (a n j : Nat) (h : j < n) : (part a n n)[j]? = some (.int .u8 (48 + (tb a j : Int))) := by
  unfold part
  simp [signs, h]
theorem text_succ (a k : Nat) : strOfNums (signs a k) ++ strOfNums [48 + (tb a k : Int)] = strOfNums (signs a (k + 1)) := by
  rw [signs_succ]
  apply ByteArray.ext
  simp [strOfNums]
theorem text_size (a k : Nat) : (strOfNums (signs a k)).size = k := by rw [strOfNums_size, signs_length]

theorem info_u8 : (Tryd.prog.info? 5).map (fun i => (i.zero, i.size, i.bytes)) = some (some (.int .u8 0), 1, 1) := by kernel_rfl

theorem text_in (a n : Nat) (w : World) (ha : a < 4294967296) (hn : n ≤ 32) :
    Calls Tryd.prog 24 #[.int .u32 a, .int .i64 n] w fun e w' => e = .returned (.tuple #[.string (strOfNums (signs a n)), .int .i64 0]) ∧ Below w.heap.size w w' := by
  obtain ⟨i0, hi, hz0, hz1, hz2⟩ := info_parts info_u8
  have hmk : ∀ w1 : World, (Instr.makeSlice 42 (.int .i64 (n : Int)) (.int .i64 (n : Int))).run Tryd.prog w1 = .ok (.slice (some ⟨w1.heap.size, 0, none⟩) n n) (w1.alloc (.cells (madeCells #[.int .u8 0] n) 5)) := fun w1 => by
    have := run_make (P := Tryd.prog) w1 42 5 i0 (.int .u8 0) Tryd.underlying42 hi hz0 .i64 .i64 n n (by omega) (Int.le_refl _) (by rw [hz2]; omega) (by omega)
    simpa [hz1, Value.cells] using this
  clear hi hz0 hz1 hz2
  have hmx : n ≤ maxLen := by unfold maxLen; omega
  have HR : Hid ((w.alloc (.cells (madeCells #[.int .u8 0] n) 5)).ownsRow w.heap.size 5 1 (.slice (some ⟨w.heap.size, 0, none⟩) n n) n (part a n 0)) := by
    have := World.ownsRow_lit (base := w.heap.size) (e := 5) (size := 1) w (madeCells #[.int .u8 0] n) n (Nat.le_refl _) hmx (by simp [size_madeCells])
    rw [toList_madeCells_one, ← part_zero a n] at this
    exact this
  clear hmx
  go_enter Tryd.func24, Tryd.ntmps24
  go_wp2_with (go_at_call 26; refine (isLength_in n _ hn).mono ?_; rintro e w' ⟨rfl, hw⟩; obtain rfl := hw.symm; clear hw)
  clear hmk
  go_loopw [14] (fun i wr => ∃ k : Nat, k ≤ n ∧ i = .int .i64 k ∧ Hid (wr.ownsRow w.heap.size 5 1 (.slice (some ⟨w.heap.size, 0, none⟩) n n) n (part a n k)) ∧ Below w.heap.size w wr) (fun i _ => n - (intOf i).toNat)
  case atStart => exact ⟨0, Nat.zero_le _, rfl, HR, (Below.refl _ _).alloc (Nat.le_refl _) _⟩
  case round =>
    clear HR
    obtain ⟨k, hk, rfl, hown, hbel⟩ := hrel
    have htb := tb_lt a k
    by_cases hlt : k < n
    · have hst := hown.out.stored k (.int .u8 (48 + (tb a k : Int)))
      rw [part_set a n k hlt] at hst
      have HS : Hid (_ ∧ _) := hst
      have hpl : k < (part a n k).length := by simp [part, signs_length]; omega
      have hcell : wr.cell? ⟨w.heap.size, k, none⟩ = some ((part a n k)[k]'hpl) := by
        rw [hown.out.cellAt k (by omega), List.getElem?_eq_getElem hpl]
      have hfz := hown.out.frozenAt k
      clear hst
      go_wp2_with (go_at_call 28; refine (bit_any _ k _ (by assumption) (by omega)).mono ?_; rintro e w' ⟨rfl, hw⟩; obtain rfl := hw.symm; clear hw)
      go_roundw
      case rel => exact ⟨k + 1, by omega, by go_num, HS.out.1, hbel.setCell (Nat.le_refl _) _⟩
      case measure => simp [intOf]; omega
    · obtain rfl : k = n := by omega
      have hcv := run_convert_bytes_arg (P := Tryd.prog) wr 42 5 Tryd.underlying42 Tryd.underlying5 w.heap.size 0 k k (signs a k) (signs_length a k) (fun i hi => by
        rw [Nat.zero_add, hown.out.cellAt i (by omega), part_all a k i hi, signs_at a k i hi]) 9 Tryd.underlying9
      go_wp2
      go_ret2
      exact ⟨rfl, hbel⟩
theorem text_out (a : Int) (n : Int) (w : World) (hn : n < 0 ∨ 32 < n) :
    Calls Tryd.prog 24 #[.int .u32 a, .int .i64 n] w fun e w' => e = .returned (.tuple #[.string { data := #[] }, .int .i64 1]) ∧ w' = w := by
  go_enter Tryd.func24, Tryd.ntmps24
  go_wp2_with (go_at_call 26; refine (isLength_out n _ hn).mono ?_; rintro e w' ⟨rfl, rfl⟩)
  go_ret2
  exact ⟨rfl, rfl⟩
theorem rtext_out (a : Int) (n : Int) (w : World) (hn : n < 0 ∨ 32 < n) :
    Calls Tryd.prog 25 #[.int .u32 a, .int .i64 n] w fun e w' => e = .returned (.tuple #[.string { data := #[] }, .int .i64 1]) ∧ w' = w := by
  rcases hn with hn | hn
  all_goals
    go_enter Tryd.func25, Tryd.ntmps25
    go_wp2
    go_ret2
    exact ⟨rfl, rfl⟩
theorem rtext_in (a n : Nat) (w : World) (ha : a < 4294967296) (hn : n ≤ 32) :
    Calls Tryd.prog 25 #[.int .u32 a, .int .i64 n] w fun e w' => e = .returned (.tuple #[.string (strOfNums (signs a n)), .int .i64 0]) ∧ Below w.heap.size w w' := by
  go_enter Tryd.func25, Tryd.ntmps25
  go_wp2
  go_loopw [6, 7] (fun s i wr => ∃ k : Nat, k ≤ n ∧ i = .int .i64 k ∧ s = .string (strOfNums (signs a k)) ∧ Below w.heap.size w wr) (fun _ i _ => n - (intOf i).toNat)
  case atStart => exact ⟨0, Nat.zero_le _, rfl, rfl, Below.refl _ _⟩
  case round =>
    obtain ⟨k, hk, rfl, rfl, hbel⟩ := hrel
    have htb := tb_lt a k
    have hA := and_top a k ha
    have hsz := text_size a k
    by_cases hlt : k < n
    · have hcv := run_convert_bytes_arg (P := Tryd.prog) (wr.alloc (.cells #[.int .u8 (48 + (tb a k : Int))] 5)) 42 5 Tryd.underlying42 Tryd.underlying5 wr.heap.size 0 1 1 [48 + (tb a k : Int)] rfl (fun i hi => by
        obtain rfl : i = 0 := by omega
        exact (World.cell?_alloc_new wr _ _ 0).trans rfl) 9 Tryd.underlying9
      have hadd : ∀ w1 : World, (Op.stringOp .add (strOfNums (signs a k)) (strOfNums [48 + (tb a k : Int)])).run Tryd.prog w1 = .ok (.string (strOfNums (signs a (k + 1)))) w1 := fun w1 => by
        rw [run_string_add_sum w1 _ _ (by rw [text_size, strOfNums_size]; simp; omega), text_succ]
      go_wp2
      go_roundw
      case rel => exact ⟨k + 1, by omega, by go_num, rfl, hbel.alloc hbel.size _⟩
      case measure => simp [intOf]; omega
    · obtain rfl : k = n := by omega
      go_wp2
      go_ret2
      exact ⟨rfl, hbel⟩
end Go.Proofs.YtejcckkekjkmlaaDoor
