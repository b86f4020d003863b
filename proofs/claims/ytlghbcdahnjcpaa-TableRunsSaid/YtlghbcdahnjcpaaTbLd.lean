/-
  quintetkeep: mark, Spoil, Lend, Back; Rules with its capacity.
-/
import Derived.Test.YtlghbcdahnjcpaaTbK
namespace Go.Proofs.Ytlghbcdahnjcpaa
open Go.RowKit
set_option linter.unusedVariables false
set_option linter.unusedSimpArgs false

def mkR (k : Nat) : Ru := ⟨-7 - (k : Int), 0, 0, 0, 0, (0, 0), (0, 0), (0, 0), 77⟩
theorem markC (k : Nat) (hk : k ≤ 100) (w : World) : Calls Try.prog 49 #[.int .i64 (k : Int)] w fun e w' => e = .returned (.agg #[.int .i64 (mkR k).i, .int .u32 ((mkR k).s : Int), .int .i64 (mkR k).sl, .int .u32 ((mkR k).d : Int), .int .i64 (mkR k).dl, .int .u16 ((mkR k).p.1 : Int), .int .u16 ((mkR k).p.2 : Int), .int .u16 ((mkR k).q.1 : Int), .int .u16 ((mkR k).q.2 : Int), .int .u8 ((mkR k).m.1 : Int), .int .u8 ((mkR k).m.2 : Int), .int .i64 (mkR k).act]) ∧ Below w.heap.size w w' := by
  have hk0 : (k : Int) ≤ 100 := by omega
  have hw : IntKind.i64.wrap (-7 - (k : Int)) = -7 - (k : Int) := by rw [IntKind.wrap_i64]; omega
  go_enter Try.func49, Try.ntmps49
  go_wp2_with (fail)
  exact bodyPost_ret (results_blk Try.results49 rfl (blk_new w _) Try.underlying43 rfl (by kernel_rfl)) rfl ⟨rfl, (Below.refl _ _).alloc (Nat.le_refl _) _⟩
theorem wpList_storeU {ops : Array Oper} {rest : List Oper} {o : Oper} {a : Act} {w : World} {Q : Exit → Act → World → Prop} (hgd : o.guard = none) (x y : Operand) (ho : o.op = .store 43 x y)
    (b g n cap : Nat) (l : List Ru) (hr : RowU w b (.slice (some ⟨g, 0, none⟩) n cap) l) (p : Nat) (hp : p < n) (R : Ru) (hx : a.eval x = .pointer (some ⟨g, p * 12, none⟩)) (hy : a.eval y = .agg #[.int .i64 R.i, .int .u32 (R.s : Int), .int .i64 R.sl, .int .u32 (R.d : Int), .int .i64 R.dl, .int .u16 (R.p.1 : Int), .int .u16 (R.p.2 : Int), .int .u16 (R.q.1 : Int), .int .u16 (R.q.2 : Int), .int .u8 (R.m.1 : Int), .int .u8 (R.m.2 : Int), .int .i64 R.act])
    (hK : ∀ w', RowU w' b (.slice (some ⟨g, 0, none⟩) n cap) (l.take p ++ [R] ++ l.drop (p + [R].length)) → w.grownBy w' (some g) → wpList Try.prog ops Q rest (a.put o.dst undef) w') : wpList Try.prog ops Q (o :: rest) a w :=
  wpList_plain hgd fun K hK' => wp_storeU x y ho b g n cap l hr p hp R hx hy fun w' h1 h2 => hK' _ _ (hK w' h1 h2)
/-- What is written over one block alone, and made besides. -/
theorem grown_below {w w1 w2 : World} {g : Nat} (hb : Below w.heap.size w w1) (hg : w1.grownBy w2 (some g)) : w.grownBy w2 (some g) :=
  ⟨hg.os.trans hb.os, hg.tape.trans hb.tape, hg.output.trans hb.output, Nat.le_trans hb.size hg.size, fun k hk hne => by rw [hg.block k (Nat.lt_of_lt_of_le hk hb.size) hne, hb.block k hk]⟩
theorem grown_on {w w1 w2 : World} {g : Nat} (hg : w.grownBy w1 (some g)) (hb : Below w1.heap.size w1 w2) : w.grownBy w2 (some g) :=
  ⟨hb.os.trans hg.os, hb.tape.trans hg.tape, hb.output.trans hg.output, Nat.le_trans hg.size hb.size, fun k hk hne => by rw [hb.block k (Nat.lt_of_lt_of_le hk hg.size), hg.block k hk hne]⟩
theorem grown_trans {w w1 w2 : World} {g : Nat} (h1 : w.grownBy w1 (some g)) (h2 : w1.grownBy w2 (some g)) : w.grownBy w2 (some g) := World.grownBy.trans h1 h2
set_option maxRecDepth 20000 in
set_option maxHeartbeats 4000000 in
theorem spoilC (g n : Nat) (l : List Ru) (w : World) (hr : RowU w 0 (.slice (some ⟨g, 0, none⟩) n n) l) (hn : n ≤ 200000) :
    Calls Try.prog 39 #[.slice (some ⟨g, 0, none⟩) n n] w fun e w' => e = .returned (.tuple #[]) ∧ w.grownBy w' (some g) := by
  have hM : ∀ W, Calls Try.prog 49 #[.int .i64 9] W fun e w' => e = .returned (.agg #[.int .i64 (mkR 9).i, .int .u32 ((mkR 9).s : Int), .int .i64 (mkR 9).sl, .int .u32 ((mkR 9).d : Int), .int .i64 (mkR 9).dl, .int .u16 ((mkR 9).p.1 : Int), .int .u16 ((mkR 9).p.2 : Int), .int .u16 ((mkR 9).q.1 : Int), .int .u16 ((mkR 9).q.2 : Int), .int .u8 ((mkR 9).m.1 : Int), .int .u8 ((mkR 9).m.2 : Int), .int .i64 (mkR 9).act]) ∧ Below W.heap.size W w' := fun W => markC 9 (by decide) W
  have HR : Hid (RowU w 0 (.slice (some ⟨g, 0, none⟩) n n) l) := hr
  have hn0 : (n : Int) ≤ 200000 := by omega
  clear hr
  generalize mkR 9 = R at *
  have hcz : ∀ W, (Instr.sliceAt 33 (.slice (some ⟨g, 0, none⟩) n n) none (some (.int .i64 (n : Int))) none).run Try.prog W = .ok (.slice (some ⟨g, 0, none⟩) n n) W := fun W => cut_h' W _ n n n _ rfl (Nat.le_refl _)
  go_enter Try.func39, Try.ntmps39
  go_wp2_with (fail)
  clear hcz
  go_loopw [2] (fun i wr => ∃ (k : Nat) (L : List Ru), k ≤ n ∧ i = .int .i64 (k : Int) ∧ Hid (RowU wr 0 (.slice (some ⟨g, 0, none⟩) n n) L) ∧ Hid (w.grownBy wr (some g))) (fun i _ => n - (intOf i).toNat)
  case atStart => exact ⟨0, l, Nat.zero_le _, rfl, HR.out, ⟨rfl, rfl, rfl, Nat.le_refl _, fun _ _ _ => rfl⟩⟩
  case round =>
    clear HR
    obtain ⟨k, L, hk, rfl, HRr, HG⟩ := hrel
    by_cases hlt : k < n
    · have hlt' : (k : Int) < (n : Int) := by omega
      go_wp2_with (fail)
      refine (hM _).mono ?_
      rintro e W1 ⟨rfl, hb⟩
      have HR1 : Hid (RowU W1 0 (.slice (some ⟨g, 0, none⟩) n n) L) := HRr.out.on hb
      have HG1 : Hid (w.grownBy W1 (some g)) := grown_on HG.out hb
      clear hb HRr HG
      go_wp2_with (refine wpList_storeU rfl (.tmp 16) (.tmp 15) rfl 0 g n n L HR1.out k hlt R rfl rfl ?_; intro w3 hr3 hg3)
      have HR3 : Hid (RowU w3 0 (.slice (some ⟨g, 0, none⟩) n n) (L.take k ++ [R] ++ L.drop (k + [R].length))) := hr3
      have HG3 : Hid (w.grownBy w3 (some g)) := grown_trans HG1.out hg3
      clear hr3 hg3
      go_roundw
      case rel => exact ⟨k + 1, _, by omega, by go_num, HR3.out, HG3.out⟩
      case measure => simp [intOf]; omega
    · obtain rfl : k = n := by omega
      go_wp2_with (fail)
      go_end0
      exact ⟨rfl, HG.out⟩
/-- A row that was just made. -/
theorem made_rowU (w : World) (m : Nat) (hm : m ≤ 300000) : RowU (w.alloc (.cells (madeCells #[.int .i64 0, .int .u32 0, .int .i64 0, .int .u32 0, .int .i64 0, .int .u16 0, .int .u16 0, .int .u16 0, .int .u16 0, .int .u8 0, .int .u8 0, .int .i64 0] (m * 12)) 43)) w.heap.size (.slice (some ⟨w.heap.size, 0, none⟩) m m) (List.replicate m ruZ) := by
  have hl : (List.replicate m ruZ).length = m := List.length_replicate
  refine ⟨flatU_length _, .inr ⟨w.heap.size, m, _, by rw [hl], Nat.le_refl _, blk_new w _, by rw [hl]; exact Nat.le_refl _, by unfold maxLen; omega, size_madeCells _ _, ?_⟩⟩
  rw [hl]
  apply List.ext_getElem?
  intro i
  by_cases hi : i < m * 12
  · have h1 : i / 12 < (List.replicate m ruZ).length := by rw [hl]; omega
    have h2 := flatU_at (List.replicate m ruZ) (i / 12) h1 (i % 12) (Nat.mod_lt _ (by decide))
    rw [show i / 12 * 12 + i % 12 = i by omega, List.getElem_replicate] at h2
    rw [h2, List.getElem?_take, if_pos hi]
    have hj : i % 12 < 12 := Nat.mod_lt _ (by decide)
    simp only [madeCells, Array.toList_map, Array.toList_range, List.getElem?_map, List.getElem?_range hi, Option.map_some]
    show some ((#[.int .i64 0, .int .u32 0, .int .i64 0, .int .u32 0, .int .i64 0, .int .u16 0, .int .u16 0, .int .u16 0, .int .u16 0, .int .u8 0, .int .u8 0, .int .i64 0] : Array Value)[i % 12]!) = _
    generalize i % 12 = j at hj
    match j, hj with
    | 0, _ => rfl
    | 1, _ => rfl
    | 2, _ => rfl
    | 3, _ => rfl
    | 4, _ => rfl
    | 5, _ => rfl
    | 6, _ => rfl
    | 7, _ => rfl
    | 8, _ => rfl
    | 9, _ => rfl
    | 10, _ => rfl
    | 11, _ => rfl
  · rw [List.getElem?_eq_none (by rw [List.length_take]; omega), List.getElem?_eq_none (by rw [flatU_length, hl]; omega)]
/-- A list lent: its own row, two marks behind. -/
def Lent (w : World) (x : Value) (l : List Ru) (g : Nat) : Prop := x = .slice (some ⟨g, 0, none⟩) l.length (l.length + 2) ∧ RowU w 0 (.slice (some ⟨g, 0, none⟩) (l.length + 2) (l.length + 2)) (l ++ [mkR 0, mkR 1])
theorem Lent.src {w : World} {x : Value} {l : List Ru} {g : Nat} (h : Lent w x l g) : SrcU w x l := by
  have h1 := h.2.src.cut 0 l.length (Nat.zero_le _) (by simp)
  rw [cutU_zero, List.drop_zero, List.take_left] at h1
  rw [h.1]; exact h1
set_option maxRecDepth 20000 in
set_option maxHeartbeats 4000000 in
theorem lendC (u : Value) (l : List Ru) (w : World) (hs : SrcU w u l) (hl : l.length ≤ 200000) :
    Calls Try.prog 35 #[u] w fun e w' => ∃ x g, e = .returned x ∧ Lent w' x l g ∧ w.heap.size ≤ g ∧ g < w'.heap.size ∧ Below w.heap.size w w' := by
  have hM0 : ∀ W, Calls Try.prog 49 #[.int .i64 0] W fun e w' => e = .returned (.agg #[.int .i64 (mkR 0).i, .int .u32 ((mkR 0).s : Int), .int .i64 (mkR 0).sl, .int .u32 ((mkR 0).d : Int), .int .i64 (mkR 0).dl, .int .u16 ((mkR 0).p.1 : Int), .int .u16 ((mkR 0).p.2 : Int), .int .u16 ((mkR 0).q.1 : Int), .int .u16 ((mkR 0).q.2 : Int), .int .u8 ((mkR 0).m.1 : Int), .int .u8 ((mkR 0).m.2 : Int), .int .i64 (mkR 0).act]) ∧ Below W.heap.size W w' := fun W => markC 0 (by decide) W
  have hM1 : ∀ W, Calls Try.prog 49 #[.int .i64 1] W fun e w' => e = .returned (.agg #[.int .i64 (mkR 1).i, .int .u32 ((mkR 1).s : Int), .int .i64 (mkR 1).sl, .int .u32 ((mkR 1).d : Int), .int .i64 (mkR 1).dl, .int .u16 ((mkR 1).p.1 : Int), .int .u16 ((mkR 1).p.2 : Int), .int .u16 ((mkR 1).q.1 : Int), .int .u16 ((mkR 1).q.2 : Int), .int .u8 ((mkR 1).m.1 : Int), .int .u8 ((mkR 1).m.2 : Int), .int .i64 (mkR 1).act]) ∧ Below W.heap.size W w' := fun W => markC 1 (by decide) W
  obtain ⟨i0, hi, hz0, hz1, hz2⟩ := info_parts infoU
  have hmk := fun W => run_make (P := Try.prog) W 33 43 i0 _ Try.underlying33 hi hz0 .i64 .i64 ((l.length : Int) + 2) ((l.length : Int) + 2) (by omega) (Int.le_refl _) (by rw [hz2]; omega) (by omega)
  simp only [hz1, show ((l.length : Int) + 2).toNat = l.length + 2 by omega] at hmk
  have hrow := made_rowU w (l.length + 2) (by omega)
  have hs1 := hs.keep ((Below.refl _ _).alloc (Nat.le_refl _) (.cells (madeCells #[.int .i64 0, .int .u32 0, .int .i64 0, .int .u32 0, .int .i64 0, .int .u16 0, .int .u16 0, .int .u16 0, .int .u16 0, .int .u8 0, .int .u8 0, .int .i64 0] ((l.length + 2) * 12)) 43))
  obtain ⟨w1, hr, hrow1, hgr1⟩ := run_copyU _ 3 0 w.heap.size (l.length + 2) (l.length + 2) _ (hrow.base (Nat.zero_le _)) 0 (Nat.zero_le _) u l hs1
  have el : (List.replicate (l.length + 2) ruZ).take 0 ++ l.take (l.length + 2 - 0) ++ (List.replicate (l.length + 2) ruZ).drop (0 + (l.take (l.length + 2 - 0)).length) = l ++ [ruZ, ruZ] := by
    rw [List.take_of_length_le (l := l) (by omega), Nat.zero_add, List.drop_replicate, show l.length + 2 - l.length = 2 by omega]
    rfl
  rw [el] at hrow1
  rw [cutU_zero, show Nat.min l.length (l.length + 2 - 0) = l.length from Nat.min_eq_left (by omega)] at hr
  have HB1 : Hid (Below w.heap.size w w1) := ((Below.refl _ _).alloc (Nat.le_refl _) _).grown hgr1 (by simp) (fun k hk => by simp at hk; omega)
  have HR1 : Hid (RowU w1 0 (.slice (some ⟨w.heap.size, 0, none⟩) (l.length + 2) (l.length + 2)) (l ++ [ruZ, ruZ])) := hrow1
  have Hlt : Hid (w.heap.size < w1.heap.size) := (hrow1.lt w.heap.size rfl).2
  have HL3 : Hid ((l ++ [ruZ, ruZ]).take l.length ++ [mkR 0] ++ (l ++ [ruZ, ruZ]).drop (l.length + [mkR 0].length) = l ++ [mkR 0, ruZ]) := by
    show _ = _
    rw [List.take_left, show l.length + [mkR 0].length = l.length + 1 from rfl, List.drop_append, List.drop_eq_nil_of_le (by omega)]
    simp
  have HL4 : Hid ((l ++ [mkR 0, ruZ]).take (l.length + 1) ++ [mkR 1] ++ (l ++ [mkR 0, ruZ]).drop (l.length + 1 + [mkR 1].length) = l ++ [mkR 0, mkR 1]) := by
    show _ = _
    have hdn : (l ++ [mkR 0, ruZ]).drop (l.length + 2) = [] := List.drop_eq_nil_of_le (by simp)
    rw [show l.length + 1 + [mkR 1].length = l.length + 2 from rfl, List.take_append, List.take_of_length_le (l := l) (by omega), hdn]
    simp
  have HF : Hid (∀ w', RowU w' 0 (.slice (some ⟨w.heap.size, 0, none⟩) (l.length + 2) (l.length + 2)) (l ++ [mkR 0, mkR 1]) → Lent w' (.slice (some ⟨w.heap.size, 0, none⟩) l.length (l.length + 2)) l w.heap.size) := fun w' h => ⟨rfl, h⟩
  obtain ⟨ad, cap, rfl, hcap, hat⟩ := hs
  obtain ⟨n, hn⟩ : ∃ n, n = l.length := ⟨_, rfl⟩
  have Hn : Hid (n = l.length) := hn
  rw [← hn] at hl hcap hmk hr HR1 HL3 HL4 HF
  have hcz : ∀ W, (Instr.sliceAt 33 (.slice (some ⟨w.heap.size, 0, none⟩) (n + 2) (n + 2)) none (some (.int .i64 (n : Int))) none).run Try.prog W = .ok (.slice (some ⟨w.heap.size, 0, none⟩) n (n + 2)) W := fun W => cut_h' W _ (n + 2) (n + 2) n _ rfl (by omega)
  rw [← hn]
  clear hat hrow hs1 hrow1 hgr1 el hi hz0 hz1 hz2 hn
  generalize mkR 0 = M0 at *
  generalize mkR 1 = M1 at *
  have hn0 : (n : Int) ≤ 200000 := by omega
  have hw2 : IntKind.i64.wrap ((n : Int) + 2) = (n : Int) + 2 := by rw [IntKind.wrap_i64]; omega
  have hw1 : IntKind.i64.wrap ((n : Int) + 1) = (n : Int) + 1 := by rw [IntKind.wrap_i64]; omega
  go_enter Try.func35, Try.ntmps35
  go_wp2_with (fail)
  refine (hM0 _).mono ?_
  rintro e W1 ⟨rfl, hb⟩
  have HB2 : Hid (Below w.heap.size w W1) := HB1.out.trans (hb.mono HB1.out.size)
  have HR2 : Hid (RowU W1 0 (.slice (some ⟨w.heap.size, 0, none⟩) (n + 2) (n + 2)) (l ++ [ruZ, ruZ])) := HR1.out.on hb
  have Hlt2 : Hid (w.heap.size < W1.heap.size) := Nat.lt_of_lt_of_le Hlt.out hb.size
  clear hb HB1 HR1 Hlt
  go_wp2_with (refine wpList_storeU rfl (.tmp 15) (.tmp 14) rfl 0 w.heap.size (n + 2) (n + 2) _ HR2.out n (by omega) M0 rfl rfl ?_; intro w3 hr3 hg3)
  rw [HL3.out] at hr3
  have HR3 : Hid (RowU w3 0 (.slice (some ⟨w.heap.size, 0, none⟩) (n + 2) (n + 2)) (l ++ [M0, ruZ])) := hr3
  have HB3 : Hid (Below w.heap.size w w3) := HB2.out.grown hg3 (by have := HB2.out.size; omega) (fun k hk => by simp at hk; omega)
  have Hlt3 : Hid (w.heap.size < w3.heap.size) := Nat.lt_of_lt_of_le Hlt2.out hg3.size
  clear hr3 hg3 HB2 HR2 Hlt2 HL3
  refine (hM1 _).mono ?_
  rintro e W4 ⟨rfl, hb⟩
  have HB4 : Hid (Below w.heap.size w W4) := HB3.out.trans (hb.mono HB3.out.size)
  have HR4 : Hid (RowU W4 0 (.slice (some ⟨w.heap.size, 0, none⟩) (n + 2) (n + 2)) (l ++ [M0, ruZ])) := HR3.out.on hb
  have Hlt4 : Hid (w.heap.size < W4.heap.size) := Nat.lt_of_lt_of_le Hlt3.out hb.size
  clear hb HB3 HR3 Hlt3
  go_wp2_with (refine wpList_storeU rfl (.tmp 21) (.tmp 20) rfl 0 w.heap.size (n + 2) (n + 2) _ HR4.out (n + 1) (by omega) M1 rfl rfl ?_; intro w5 hr5 hg5)
  rw [HL4.out] at hr5
  have HR5 : Hid (RowU w5 0 (.slice (some ⟨w.heap.size, 0, none⟩) (n + 2) (n + 2)) (l ++ [M0, M1])) := hr5
  have HB5 : Hid (Below w.heap.size w w5) := HB4.out.grown hg5 (by have := HB4.out.size; omega) (fun k hk => by simp at hk; omega)
  have Hlt5 : Hid (w.heap.size < w5.heap.size) := Nat.lt_of_lt_of_le Hlt4.out hg5.size
  clear hr5 hg5 HB4 HR4 Hlt4 HL4
  refine bodyPost_ret (v := .slice (some ⟨w.heap.size, 0, none⟩) n (n + 2)) (by simp [results, Try.results35, go_sem]) rfl ?_
  exact ⟨_, _, rfl, HF.out _ HR5.out, Nat.le_refl _, Hlt5.out, HB5.out⟩
end Go.Proofs.Ytlghbcdahnjcpaa
