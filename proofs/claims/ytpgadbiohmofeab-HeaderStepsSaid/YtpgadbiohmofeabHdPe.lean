/-
  Pack, Unpack, Bit, Turn of header: what they hand back.
-/
import Derived.Test.YtpgadbiohmofeabHdPa
import Derived.Test.YtpgadbiohmofeabHdPb
import Derived.Test.YtpgadbiohmofeabHdPw
import Derived.Test.YtpgadbiohmofeabHdK
import Derived.Deep.DeepCutAuto
import Derived.Laws.Cover3
namespace Go.Proofs.Ytpgadbiohmofeab
open Go.RowKit
set_option linter.unusedVariables false
set_option linter.unusedSimpArgs false

set_option maxHeartbeats 1000000 in
theorem packC : PackC := by
  intro h w o
  go_enter Try.func5, Try.ntmps5
  go_wp2_with (fail)
  refine (layT h _ o).mono ?_
  rintro e w1 ⟨rfl, b1⟩
  have hz := b1.size
  simp at hz
  have HB : Hid (Below w.heap.size w w1) := ((Below.refl _ _).alloc (Nat.le_refl _) _).trans (b1.mono (by simp))
  clear b1
  go_wp2
  go_ret
  exact ⟨_, rfl, row13 w1 (bytesH h) w.heap.size rfl (by omega), HB.out.alloc (by omega) _⟩
set_option maxHeartbeats 1000000 in
theorem unpN : UnpN := by
  intro l v w hs hl hm
  obtain ⟨ad, cap, rfl, -, -⟩ := hs
  have hne : ¬ (l.length : Int) = 13 := by omega
  have hnb : ((l.length : Int) != 13) = true := by simp [hne]
  generalize l.length = n at *
  go_enter Try.func15, Try.ntmps15
  go_wp2
  exact bodyPost_ret (v := .tuple #[.agg #[.int .u32 (h0.s : Int), .int .u32 (h0.d : Int), .int .u16 (h0.p : Int), .int .u16 (h0.q : Int), .int .u8 (h0.r : Int)], .int .i64 60]) (by simp [results, Try.results15, go_sem, h0]) rfl ⟨rfl, by (repeat (first | assumption | exact Below.refl _ _ | refine Below.drew ?_ | refine bel_drewN ?_ _ | refine Below.setCell ?_ (by first | omega | (simp; done) | (simp; omega)) _ | refine Below.alloc ?_ (by first | omega | (simp; done) | (simp; omega)) _ | refine bel_of ?_ (by assumption)))⟩
set_option maxHeartbeats 1000000 in
theorem unpC : UnpC := by
  intro l v w hs hl hbd
  obtain ⟨ad, cap, rfl, hc, hat⟩ := hs
  obtain ⟨g, off, rfl, hcell⟩ := hat (by omega)
  have hg : g < w.heap.size := World.block_lt_of_cell? _ _ (hcell 0 (by omega))
  have hne : ¬ g = w.heap.size := by omega
  have kw := fun W => wheadT l W hl hbd
  generalize hdB l = H at *
  rw [hl] at hc ⊢
  obtain ⟨a0, a1, a2, a3, a4, a5, a6, a7, a8, a9, b0, b1, b2, rfl⟩ := len13 hl
  simp only [List.getD_cons_zero, List.getD_cons_succ] at kw
  have x0 : w.cell? ⟨g, off, none⟩ = some (.int .u8 (a0 : Int)) := hcell 0 (by simp)
  have x1 : w.cell? ⟨g, off + 1, none⟩ = some (.int .u8 (a1 : Int)) := hcell 1 (by simp)
  have x2 : w.cell? ⟨g, off + 2, none⟩ = some (.int .u8 (a2 : Int)) := hcell 2 (by simp)
  have x3 : w.cell? ⟨g, off + 3, none⟩ = some (.int .u8 (a3 : Int)) := hcell 3 (by simp)
  have x4 : w.cell? ⟨g, off + 4, none⟩ = some (.int .u8 (a4 : Int)) := hcell 4 (by simp)
  have x5 : w.cell? ⟨g, off + 5, none⟩ = some (.int .u8 (a5 : Int)) := hcell 5 (by simp)
  have x6 : w.cell? ⟨g, off + 6, none⟩ = some (.int .u8 (a6 : Int)) := hcell 6 (by simp)
  have x7 : w.cell? ⟨g, off + 7, none⟩ = some (.int .u8 (a7 : Int)) := hcell 7 (by simp)
  have x8 : w.cell? ⟨g, off + 8, none⟩ = some (.int .u8 (a8 : Int)) := hcell 8 (by simp)
  have x9 : w.cell? ⟨g, off + 9, none⟩ = some (.int .u8 (a9 : Int)) := hcell 9 (by simp)
  have x10 : w.cell? ⟨g, off + 10, none⟩ = some (.int .u8 (b0 : Int)) := hcell 10 (by simp)
  have x11 : w.cell? ⟨g, off + 11, none⟩ = some (.int .u8 (b1 : Int)) := hcell 11 (by simp)
  have x12 : w.cell? ⟨g, off + 12, none⟩ = some (.int .u8 (b2 : Int)) := hcell 12 (by simp)
  have hc13 : (13 : Int) ≤ (cap : Int) := by omega
  clear hat hcell hbd hl
  have hra : ∀ W : World, (Instr.arrayAt 39 (.slice (some ⟨g, off, none⟩) 13 cap)).run Try.prog W = .ok (.pointer (some ⟨g, off, none⟩)) W := fun W => run_arrayAt _ _ 5 13 _ 13 cap Try.underlying39 (Nat.le_refl _)
  go_enter Try.func15, Try.ntmps15
  go_wp2_with (fail)
  refine (kw _).mono ?_
  rintro e w1 ⟨rfl, b1⟩
  obtain ⟨hc1, hf1⟩ := bcell b1
  have hz := b1.size
  simp at hz
  have q0 : ∀ j, j < 5 → ∃ v, w1.cell? ⟨w.heap.size, j, none⟩ = some v := fun j hj => by
    rw [hc1 _ _ (by simp)]
    match j, hj with
    | 0, _ => exact ⟨_, by simp [go_sem]; rfl⟩
    | 1, _ => exact ⟨_, by simp [go_sem]; rfl⟩
    | 2, _ => exact ⟨_, by simp [go_sem]; rfl⟩
    | 3, _ => exact ⟨_, by simp [go_sem]; rfl⟩
    | 4, _ => exact ⟨_, by simp [go_sem]; rfl⟩
  have f0 : ∀ j, w1.frozen? ⟨w.heap.size, j, none⟩ = false := fun j => by rw [hf1 _ _ (by simp)]; simp [go_sem]
  obtain ⟨y0, e0⟩ := q0 0 (by omega)
  obtain ⟨y1, e1⟩ := q0 1 (by omega)
  obtain ⟨y2, e2⟩ := q0 2 (by omega)
  obtain ⟨y3, e3⟩ := q0 3 (by omega)
  obtain ⟨y4, e4⟩ := q0 4 (by omega)
  have HB : Hid (Below w.heap.size w w1) := ((Below.refl _ _).alloc (Nat.le_refl _) _).trans (b1.mono (by simp))
  clear hc1 hf1 b1 q0
  go_wp2
  exact bodyPost_ret (v := .tuple #[.agg #[.int .u32 (H.s : Int), .int .u32 (H.d : Int), .int .u16 (H.p : Int), .int .u16 (H.q : Int), .int .u8 (H.r : Int)], .int .i64 0]) (by simp [results, Try.results15, go_sem, e0, e1, e2, e3, e4, f0]) rfl ⟨rfl, by (iterate 5 (refine bset ?_ _ _)); exact HB.out⟩
set_option maxHeartbeats 1000000 in
theorem bitN : BitN := by
  intro h i w o hi
  have kb := fun W => isBitT i W
  have e : decide (0 ≤ i ∧ i ≤ 103) = false := decide_eq_false (by omega)
  rw [e] at kb
  clear e hi
  go_enter Try.func9, Try.ntmps9
  go_wp2_with (fail)
  refine (kb _).mono ?_
  rintro e w' ⟨rfl, hw⟩
  obtain rfl := hw.symm
  clear hw kb
  go_wp2
  exact bodyPost_ret (v := .tuple #[.int .i64 0, .int .i64 1]) (by simp [results, Try.results9, go_sem]) rfl ⟨rfl, by (repeat (first | assumption | exact Below.refl _ _ | refine Below.drew ?_ | refine bel_drewN ?_ _ | refine Below.setCell ?_ (by first | omega | (simp; done) | (simp; omega)) _ | refine Below.alloc ?_ (by first | omega | (simp; done) | (simp; omega)) _ | refine bel_of ?_ (by assumption)))⟩
theorem run_index13 (l : List Nat) (k : Nat) (hk : k < 13) (W : World) : (Instr.index 39 (.agg #[.int .u8 ((l.getD 0 0 : Nat) : Int), .int .u8 ((l.getD 1 0 : Nat) : Int), .int .u8 ((l.getD 2 0 : Nat) : Int), .int .u8 ((l.getD 3 0 : Nat) : Int), .int .u8 ((l.getD 4 0 : Nat) : Int), .int .u8 ((l.getD 5 0 : Nat) : Int), .int .u8 ((l.getD 6 0 : Nat) : Int), .int .u8 ((l.getD 7 0 : Nat) : Int), .int .u8 ((l.getD 8 0 : Nat) : Int), .int .u8 ((l.getD 9 0 : Nat) : Int), .int .u8 ((l.getD 10 0 : Nat) : Int), .int .u8 ((l.getD 11 0 : Nat) : Int), .int .u8 ((l.getD 12 0 : Nat) : Int)]) (.int .i64 (k : Int))).run Try.prog W = .ok (.int .u8 ((l.getD k 0 : Nat) : Int)) W := by
  match k, hk with
  | 0, _ => simp [Instr.index, run_underlying Try.underlying39, asIntOf, go_sem]
  | 1, _ => simp [Instr.index, run_underlying Try.underlying39, asIntOf, go_sem]
  | 2, _ => simp [Instr.index, run_underlying Try.underlying39, asIntOf, go_sem]
  | 3, _ => simp [Instr.index, run_underlying Try.underlying39, asIntOf, go_sem]
  | 4, _ => simp [Instr.index, run_underlying Try.underlying39, asIntOf, go_sem]
  | 5, _ => simp [Instr.index, run_underlying Try.underlying39, asIntOf, go_sem]
  | 6, _ => simp [Instr.index, run_underlying Try.underlying39, asIntOf, go_sem]
  | 7, _ => simp [Instr.index, run_underlying Try.underlying39, asIntOf, go_sem]
  | 8, _ => simp [Instr.index, run_underlying Try.underlying39, asIntOf, go_sem]
  | 9, _ => simp [Instr.index, run_underlying Try.underlying39, asIntOf, go_sem]
  | 10, _ => simp [Instr.index, run_underlying Try.underlying39, asIntOf, go_sem]
  | 11, _ => simp [Instr.index, run_underlying Try.underlying39, asIntOf, go_sem]
  | 12, _ => simp [Instr.index, run_underlying Try.underlying39, asIntOf, go_sem]
theorem and_all : ∀ t, t < 256 → ∀ k, k < 8 → t &&& 2 ^ k = (t / 2 ^ k % 2) * 2 ^ k := by decide +kernel
set_option maxHeartbeats 1000000 in
theorem bitC : BitC := by
  intro h i w o hi
  have kb := fun W => isBitT (i : Int) W
  have e : decide (0 ≤ (i : Int) ∧ (i : Int) ≤ 103) = true := decide_eq_true (by omega)
  rw [e] at kb
  clear e
  have kl := fun W => layT h W o
  have ko := fun W => oneT i W hi
  have hi0 : (0 : Int) ≤ (i : Int) := by omega
  have hk : i / 8 < 13 := by omega
  have hix : ∀ W : World, (Instr.index 39 (.agg #[.int .u8 (((bytesH h).getD 0 0 : Nat) : Int), .int .u8 (((bytesH h).getD 1 0 : Nat) : Int), .int .u8 (((bytesH h).getD 2 0 : Nat) : Int), .int .u8 (((bytesH h).getD 3 0 : Nat) : Int), .int .u8 (((bytesH h).getD 4 0 : Nat) : Int), .int .u8 (((bytesH h).getD 5 0 : Nat) : Int), .int .u8 (((bytesH h).getD 6 0 : Nat) : Int), .int .u8 (((bytesH h).getD 7 0 : Nat) : Int), .int .u8 (((bytesH h).getD 8 0 : Nat) : Int), .int .u8 (((bytesH h).getD 9 0 : Nat) : Int), .int .u8 (((bytesH h).getD 10 0 : Nat) : Int), .int .u8 (((bytesH h).getD 11 0 : Nat) : Int), .int .u8 (((bytesH h).getD 12 0 : Nat) : Int)]) (.int .i64 ((i : Int) / 8))).run Try.prog W = .ok (.int .u8 (((bytesH h).getD (i / 8) 0 : Nat) : Int)) W := fun W => run_index13 (bytesH h) (i / 8) hk W
  have ht := getD_lt (bytesH_bd h) (i / 8)
  obtain ⟨b, hb⟩ : ∃ b, b = bitH h i := ⟨_, rfl⟩
  have hbe : (bytesH h).getD (i / 8) 0 / 2 ^ (7 - i % 8) % 2 = b := by rw [hb]; rfl
  rw [← hb]
  have hb2 : b < 2 := by rw [hb]; exact bitH_lt h i
  have hK8 : 2 ^ (7 - i % 8) ≤ 2 ^ 7 := Nat.pow_le_pow_right (by decide) (by omega)
  have hK0 : 0 < 2 ^ (7 - i % 8) := Nat.pow_pos (by decide)
  have ea := u8_and_nat ((bytesH h).getD (i / 8) 0) (2 ^ (7 - i % 8)) ht (by omega)
  rw [and_all _ ht _ (by omega), hbe] at ea
  clear hb hbe
  generalize (bytesH h).getD (i / 8) 0 = t at *
  generalize 2 ^ (7 - i % 8) = K at *
  obtain ⟨v0, hv0⟩ : ∃ v0 : Value, v0 = .agg #[.int .u8 (((bytesH h).getD 0 0 : Nat) : Int), .int .u8 (((bytesH h).getD 1 0 : Nat) : Int), .int .u8 (((bytesH h).getD 2 0 : Nat) : Int), .int .u8 (((bytesH h).getD 3 0 : Nat) : Int), .int .u8 (((bytesH h).getD 4 0 : Nat) : Int), .int .u8 (((bytesH h).getD 5 0 : Nat) : Int), .int .u8 (((bytesH h).getD 6 0 : Nat) : Int), .int .u8 (((bytesH h).getD 7 0 : Nat) : Int), .int .u8 (((bytesH h).getD 8 0 : Nat) : Int), .int .u8 (((bytesH h).getD 9 0 : Nat) : Int), .int .u8 (((bytesH h).getD 10 0 : Nat) : Int), .int .u8 (((bytesH h).getD 11 0 : Nat) : Int), .int .u8 (((bytesH h).getD 12 0 : Nat) : Int)] := ⟨_, rfl⟩
  rw [← hv0] at hix
  have kl' : ∀ W, Calls Try.prog 12 #[.agg #[.int .u32 (h.s : Int), .int .u32 (h.d : Int), .int .u16 (h.p : Int), .int .u16 (h.q : Int), .int .u8 (h.r : Int)]] W fun e w' => e = .returned v0 ∧ Below W.heap.size W w' := fun W => by rw [hv0]; exact kl W
  clear kl hv0
  have kl := kl'
  clear kl'
  match b, hb2 with
  | 0, _ =>
    have ea' : bits .and .u8 (t : Int) (K : Int) = 0 := by rw [ea]; simp
    clear ea
    go_enter Try.func9, Try.ntmps9
    go_wp2_with (fail)
    refine (kb _).mono ?_
    rintro e w' ⟨rfl, hw⟩
    obtain rfl := hw.symm
    clear hw kb
    go_wp2_with (fail)
    have kne : Nonempty (Kin (w.alloc (.cells #[.int .u32 (h.s : Int), .int .u32 (h.d : Int), .int .u16 (h.p : Int), .int .u16 (h.q : Int), .int .u8 (h.r : Int)] 25))) := ⟨⟨_, Below.refl _ _⟩⟩
    have kc0 : ∀ y : Kin (w.alloc (.cells #[.int .u32 (h.s : Int), .int .u32 (h.d : Int), .int .u16 (h.p : Int), .int .u16 (h.q : Int), .int .u8 (h.r : Int)] 25)), y.val.cell? ⟨w.heap.size, 0, none⟩ = some (.int .u32 (h.s : Int)) := fun y => by rw [kin_cell (by first | omega | (simp <;> omega))]; first | assumption | (simp [go_sem]; done) | simp [go_sem, *]
    have kc1 : ∀ y : Kin (w.alloc (.cells #[.int .u32 (h.s : Int), .int .u32 (h.d : Int), .int .u16 (h.p : Int), .int .u16 (h.q : Int), .int .u8 (h.r : Int)] 25)), y.val.cell? ⟨w.heap.size, 1, none⟩ = some (.int .u32 (h.d : Int)) := fun y => by rw [kin_cell (by first | omega | (simp <;> omega))]; first | assumption | (simp [go_sem]; done) | simp [go_sem, *]
    have kc2 : ∀ y : Kin (w.alloc (.cells #[.int .u32 (h.s : Int), .int .u32 (h.d : Int), .int .u16 (h.p : Int), .int .u16 (h.q : Int), .int .u8 (h.r : Int)] 25)), y.val.cell? ⟨w.heap.size, 2, none⟩ = some (.int .u16 (h.p : Int)) := fun y => by rw [kin_cell (by first | omega | (simp <;> omega))]; first | assumption | (simp [go_sem]; done) | simp [go_sem, *]
    have kc3 : ∀ y : Kin (w.alloc (.cells #[.int .u32 (h.s : Int), .int .u32 (h.d : Int), .int .u16 (h.p : Int), .int .u16 (h.q : Int), .int .u8 (h.r : Int)] 25)), y.val.cell? ⟨w.heap.size, 3, none⟩ = some (.int .u16 (h.q : Int)) := fun y => by rw [kin_cell (by first | omega | (simp <;> omega))]; first | assumption | (simp [go_sem]; done) | simp [go_sem, *]
    have kc4 : ∀ y : Kin (w.alloc (.cells #[.int .u32 (h.s : Int), .int .u32 (h.d : Int), .int .u16 (h.p : Int), .int .u16 (h.q : Int), .int .u8 (h.r : Int)] 25)), y.val.cell? ⟨w.heap.size, 4, none⟩ = some (.int .u8 (h.r : Int)) := fun y => by rw [kin_cell (by first | omega | (simp <;> omega))]; first | assumption | (simp [go_sem]; done) | simp [go_sem, *]
    refine wp_region_kin (w.alloc (.cells #[.int .u32 (h.s : Int), .int .u32 (h.d : Int), .int .u16 (h.p : Int), .int .u16 (h.q : Int), .int .u8 (h.r : Int)] 25)) (Below.refl _ _) (by kernel_rfl) (by kernel_rfl) ?_
    repeat (go_big_quiet_step (first | (go_at_call 12; exact kin_call (kl _)) | (go_at_call 18; exact kin_same (ko _))))
    refine wpQuiet_nil ?_
    rintro wq ⟨⟨xq, hxq⟩, hyq⟩
    have hq : Below (w.alloc (.cells #[.int .u32 (h.s : Int), .int .u32 (h.d : Int), .int .u16 (h.p : Int), .int .u16 (h.q : Int), .int .u8 (h.r : Int)] 25)).heap.size (w.alloc (.cells #[.int .u32 (h.s : Int), .int .u32 (h.d : Int), .int .u16 (h.p : Int), .int .u16 (h.q : Int), .int .u8 (h.r : Int)] 25)) wq := by rw [hyq]; exact hxq
    clear hyq hxq xq
    clear kne kc0 kc1 kc2 kc3 kc4
    obtain ⟨hcq, hfq⟩ := bcell hq
    have hzq := hq.size
    try simp at hzq
    go_wp2
    exact bodyPost_ret (v := .tuple #[.int .i64 0, .int .i64 0]) (by simp [results, Try.results9, go_sem]) rfl ⟨rfl, by (repeat (first | assumption | exact Below.refl _ _ | refine Below.drew ?_ | refine bel_drewN ?_ _ | refine Below.setCell ?_ (by first | omega | (simp; done) | (simp; omega)) _ | refine Below.alloc ?_ (by first | omega | (simp; done) | (simp; omega)) _ | refine bel_of ?_ (by assumption)))⟩
  | 1, _ =>
    have ea' : bits .and .u8 (t : Int) (K : Int) = (K : Int) := by rw [ea]; simp
    have hKn : ¬ (K : Int) = 0 := by omega
    have hKb : ((K : Int) == 0) = false := by simp; omega
    clear ea
    go_enter Try.func9, Try.ntmps9
    go_wp2_with (fail)
    refine (kb _).mono ?_
    rintro e w' ⟨rfl, hw⟩
    obtain rfl := hw.symm
    clear hw kb
    go_wp2_with (fail)
    have kne : Nonempty (Kin (w.alloc (.cells #[.int .u32 (h.s : Int), .int .u32 (h.d : Int), .int .u16 (h.p : Int), .int .u16 (h.q : Int), .int .u8 (h.r : Int)] 25))) := ⟨⟨_, Below.refl _ _⟩⟩
    have kc0 : ∀ y : Kin (w.alloc (.cells #[.int .u32 (h.s : Int), .int .u32 (h.d : Int), .int .u16 (h.p : Int), .int .u16 (h.q : Int), .int .u8 (h.r : Int)] 25)), y.val.cell? ⟨w.heap.size, 0, none⟩ = some (.int .u32 (h.s : Int)) := fun y => by rw [kin_cell (by first | omega | (simp <;> omega))]; first | assumption | (simp [go_sem]; done) | simp [go_sem, *]
    have kc1 : ∀ y : Kin (w.alloc (.cells #[.int .u32 (h.s : Int), .int .u32 (h.d : Int), .int .u16 (h.p : Int), .int .u16 (h.q : Int), .int .u8 (h.r : Int)] 25)), y.val.cell? ⟨w.heap.size, 1, none⟩ = some (.int .u32 (h.d : Int)) := fun y => by rw [kin_cell (by first | omega | (simp <;> omega))]; first | assumption | (simp [go_sem]; done) | simp [go_sem, *]
    have kc2 : ∀ y : Kin (w.alloc (.cells #[.int .u32 (h.s : Int), .int .u32 (h.d : Int), .int .u16 (h.p : Int), .int .u16 (h.q : Int), .int .u8 (h.r : Int)] 25)), y.val.cell? ⟨w.heap.size, 2, none⟩ = some (.int .u16 (h.p : Int)) := fun y => by rw [kin_cell (by first | omega | (simp <;> omega))]; first | assumption | (simp [go_sem]; done) | simp [go_sem, *]
    have kc3 : ∀ y : Kin (w.alloc (.cells #[.int .u32 (h.s : Int), .int .u32 (h.d : Int), .int .u16 (h.p : Int), .int .u16 (h.q : Int), .int .u8 (h.r : Int)] 25)), y.val.cell? ⟨w.heap.size, 3, none⟩ = some (.int .u16 (h.q : Int)) := fun y => by rw [kin_cell (by first | omega | (simp <;> omega))]; first | assumption | (simp [go_sem]; done) | simp [go_sem, *]
    have kc4 : ∀ y : Kin (w.alloc (.cells #[.int .u32 (h.s : Int), .int .u32 (h.d : Int), .int .u16 (h.p : Int), .int .u16 (h.q : Int), .int .u8 (h.r : Int)] 25)), y.val.cell? ⟨w.heap.size, 4, none⟩ = some (.int .u8 (h.r : Int)) := fun y => by rw [kin_cell (by first | omega | (simp <;> omega))]; first | assumption | (simp [go_sem]; done) | simp [go_sem, *]
    refine wp_region_kin (w.alloc (.cells #[.int .u32 (h.s : Int), .int .u32 (h.d : Int), .int .u16 (h.p : Int), .int .u16 (h.q : Int), .int .u8 (h.r : Int)] 25)) (Below.refl _ _) (by kernel_rfl) (by kernel_rfl) ?_
    repeat (go_big_quiet_step (first | (go_at_call 12; exact kin_call (kl _)) | (go_at_call 18; exact kin_same (ko _))))
    refine wpQuiet_nil ?_
    rintro wq ⟨⟨xq, hxq⟩, hyq⟩
    have hq : Below (w.alloc (.cells #[.int .u32 (h.s : Int), .int .u32 (h.d : Int), .int .u16 (h.p : Int), .int .u16 (h.q : Int), .int .u8 (h.r : Int)] 25)).heap.size (w.alloc (.cells #[.int .u32 (h.s : Int), .int .u32 (h.d : Int), .int .u16 (h.p : Int), .int .u16 (h.q : Int), .int .u8 (h.r : Int)] 25)) wq := by rw [hyq]; exact hxq
    clear hyq hxq xq
    clear kne kc0 kc1 kc2 kc3 kc4
    obtain ⟨hcq, hfq⟩ := bcell hq
    have hzq := hq.size
    try simp at hzq
    go_wp2
    exact bodyPost_ret (v := .tuple #[.int .i64 1, .int .i64 0]) (by simp [results, Try.results9, go_sem]) rfl ⟨rfl, by (repeat (first | assumption | exact Below.refl _ _ | refine Below.drew ?_ | refine bel_drewN ?_ _ | refine Below.setCell ?_ (by first | omega | (simp; done) | (simp; omega)) _ | refine Below.alloc ?_ (by first | omega | (simp; done) | (simp; omega)) _ | refine bel_of ?_ (by assumption)))⟩
end Go.Proofs.Ytpgadbiohmofeab
