/-
  slices.Repeat of rows of numbers; nest's newShelf. Written by tools/mkNsJ.py.
-/
import Derived.Test.YtcjpjofoddpfhaaGreatNsIb
import Derived.Shelf.Bits.Mul64
namespace Go.Proofs.YtcjpjofoddpfhaaGreat
open Go.RowKit
set_option linter.unusedVariables false
set_option linter.unusedSimpArgs false

set_option maxHeartbeats 1000000 in
theorem mul64 (x y : Nat) (hx : x < 18446744073709551616) (hy : y < 18446744073709551616) (w : World) :
    Calls Tryz.prog 83 #[.int .u64 x, .int .u64 y] w fun e w' => e = .returned (.tuple #[.int .u64 ((x * y / 18446744073709551616 : Nat) : Int), .int .u64 ((x * y % 18446744073709551616 : Nat) : Int)]) ∧ w' = w := by
  obtain ⟨bd, bt, bw, hhi⟩ := Lib.mul64_hi x y hx hy
  have ba := Lib.half_mul_le (a := x / 4294967296) (b := y / 4294967296) (by omega) (by omega)
  have bb := Lib.half_mul_le (a := x / 4294967296) (b := y % 4294967296) (by omega) (by omega)
  have bc := Lib.half_mul_le (a := x % 4294967296) (b := y / 4294967296) (by omega) (by omega)
  have ba' : x / 4294967296 * (y / 4294967296) < 18446744073709551616 := by omega
  have bb' : x / 4294967296 * (y % 4294967296) < 18446744073709551616 := by omega
  have bc' : x % 4294967296 * (y / 4294967296) < 18446744073709551616 := by omega
  have bh1 : x / 4294967296 * (y / 4294967296) + (x / 4294967296 * (y % 4294967296) + x % 4294967296 * (y % 4294967296) / 4294967296) / 4294967296 < 18446744073709551616 := by omega
  have bh : x / 4294967296 * (y / 4294967296) + (x / 4294967296 * (y % 4294967296) + x % 4294967296 * (y % 4294967296) / 4294967296) / 4294967296 + ((x / 4294967296 * (y % 4294967296) + x % 4294967296 * (y % 4294967296) / 4294967296) % 4294967296 + x % 4294967296 * (y / 4294967296)) / 4294967296 < 18446744073709551616 := by omega
  go_enter Tryz.func83, Tryz.ntmps83
  go_wp2
  simp only [Mul64.maskN x hx, Mul64.maskN y hy, Mul64.divN, Mul64.mulN, Mul64.addN, Mul64.wrapN _ bd, Mul64.wrapN _ bb', Mul64.wrapN _ bt, Mul64.maskN _ bt, Mul64.wrapN _ bc', Mul64.wrapN _ bw, Mul64.wrapN _ ba', Mul64.wrapN _ bh1, Mul64.wrapN _ bh, Mul64.wrapM (x * y)]
  rw [hhi]
  go_ret2
  exact ⟨rfl, rfl⟩
theorem mul64_one (c : Nat) (hc : c ≤ 17179869184) (w : World) : Calls Tryz.prog 83 #[.int .u64 1, .int .u64 (c : Int)] w fun e w' => e = .returned (.tuple #[.int .u64 0, .int .u64 (c : Int)]) ∧ w' = w := by
  have := mul64 1 c (by omega) (by omega) w
  rw [Nat.one_mul, Nat.div_eq_of_lt (by omega), Nat.mod_eq_of_lt (by omega)] at this
  exact this
set_option maxHeartbeats 1000000 in
theorem mul_one (c : Nat) (hc : c ≤ 17179869184) (w : World) : Calls Tryz.prog 56 #[.int .u64 1, .int .u64 (c : Int)] w fun e w' => e = .returned (.tuple #[.int .u64 0, .int .u64 (c : Int)]) ∧ w' = w := by
  go_enter Tryz.func56, Tryz.ntmps56
  go_wp2_with (go_at_call 83; fail)
  refine (mul64_one c hc _).mono ?_
  rintro e w' ⟨rfl, rfl⟩
  go_wp2
  go_ret2
  exact ⟨rfl, rfl⟩
/-- The cells of a row that is filled up to n. -/
def fil (x : Int) (n c : Nat) : List Value := eI (List.replicate n x ++ List.replicate (c - n) 0)
theorem fil_len {x : Int} {n c : Nat} (h : n ≤ c) : (fil x n c).length = c := by simp [fil, eI]; omega
theorem fil_take {x : Int} {n c m : Nat} (h : m ≤ n) : (fil x n c).take m = eI (List.replicate m x) := by
  unfold fil eI
  rw [← List.map_take, List.take_append_of_le_length (by simp; omega), List.take_replicate, Nat.min_eq_left h]
theorem fil_put {x : Int} {n c m : Nat} (h : n + m ≤ c) : (fil x n c).take n ++ eI (List.replicate m x) ++ (fil x n c).drop (n + m) = fil x (n + m) c := by
  rw [fil_take (Nat.le_refl _)]
  unfold fil
  rw [← eI_app]
  have e : (eI (List.replicate n x ++ List.replicate (c - n) 0)).drop (n + m) = eI (List.replicate (c - (n + m)) 0) := by
    unfold eI
    rw [← List.map_drop, List.drop_append, List.drop_replicate, List.drop_replicate, List.length_replicate]
    rw [show n - (n + m) = 0 by omega, show c - n - (n + m - n) = c - (n + m) by omega]; rfl
  rw [e, ← eI_app, List.replicate_append_replicate]
theorem run_copyI (ST : TypeId) (hu : Tryz.prog.underlying ST = some (.slice 3)) (w : World) (ty : TypeId) (g o dLen dCap : Nat) (a : Addr) (sLen sCap : Nat) (cur : Array Value) (cs : List Value)
    (hg : w.heap[g]? = some (.cells cur 3 (0, 0))) (hn : cs.length = Nat.min sLen dLen)
    (hsrc : ∀ j v, cs[j]? = some v → w.cell? (a.add j) = some v) (hfit : o + cs.length ≤ cur.size) (h1 : ∀ v ∈ cs, v.oneCell' = true) :
    ∃ w', (Builtin.copy_ #[ST, ST] ty #[.slice (some ⟨g, o, none⟩) dLen dCap, .slice (some a) sLen sCap]).run Tryz.prog w = .ok (goInt cs.length) w' ∧ w'.heap[g]? = some (.cells (cur.toList.take o ++ cs ++ cur.toList.drop (o + cs.length)).toArray 3 (0, 0)) ∧ Only g w w' :=
  ⟨_, run_copy_row Tryz.prog w ST ST ty 3 g o dLen dCap a sLen sCap cur 3 cs hu (by kernel_rfl) hg hn hsrc hfit h1, setRow_heap w g cur _ _ _ hg, only_setRow w g _⟩
theorem Only.drew {B : Nat} {w w' : World} (h : Only B w.drew w') : Only B w w' := ⟨h.os, h.tape, h.output, h.size, h.block⟩
/-- Cuts of a row of numbers. -/
theorem cutI_l (ST : TypeId) (hu : Tryz.prog.underlying ST = some (.slice 3)) (w : World) (g n cap l : Nat) (h1 : l ≤ n) (h2 : l < cap) : (Instr.sliceAt ST (.slice (some ⟨g, 0, none⟩) n cap) (some (.int .i64 (l : Int))) none none).run Tryz.prog w = .ok (.slice (some ⟨g, l, none⟩) (n - l) (cap - l)) w := by
  obtain ⟨i0, hi, hz0, hz1, hz2⟩ := info_parts infoI
  have el : Tryz.prog.elem ST = 3 := by unfold Program.elem; rw [hu]
  have un : Tryz.prog.underlying ST = some (.slice (Tryz.prog.elem ST)) := by rw [el]; exact hu
  have sz : ∀ w, (sizeOf 3).run Tryz.prog w = .ok 1 w := fun w => by simp [sizeOf, typeInfo, hi, hz1]
  rw [run_sliceAt_slice _ _ _ _ _ _ un, run_slice_l w ST _ n cap un .i64 l (by omega) (by omega), el, sz]
  have : ¬ cap = l := by omega
  simp [Result.andThen, sliced, this, Addr.add]
  intro h; omega
theorem cutI_h (ST : TypeId) (hu : Tryz.prog.underlying ST = some (.slice 3)) (w : World) (g n cap h : Nat) (h2 : h ≤ cap) : (Instr.sliceAt ST (.slice (some ⟨g, 0, none⟩) n cap) none (some (.int .i64 (h : Int))) none).run Tryz.prog w = .ok (.slice (some ⟨g, 0, none⟩) h cap) w := by
  obtain ⟨i0, hi, hz0, hz1, hz2⟩ := info_parts infoI
  have el : Tryz.prog.elem ST = 3 := by unfold Program.elem; rw [hu]
  have un : Tryz.prog.underlying ST = some (.slice (Tryz.prog.elem ST)) := by rw [el]; exact hu
  have sz : ∀ w, (sizeOf 3).run Tryz.prog w = .ok 1 w := fun w => by simp [sizeOf, typeInfo, hi, hz1]
  rw [run_sliceAt_slice _ _ _ _ _ _ un, run_slice_h w ST _ n cap un .i64 h (by omega) (by omega), el, sz]
  simp [Result.andThen, sliced, Addr.add]
theorem fil_row {w : World} {g c : Nat} {x : Int} {b : Nat} (h : w.heap[g]? = some (.cells (fil x c c).toArray 3 (0, 0))) (hb : b ≤ g) (hc : c ≤ 17179869184) : RowI w b (.slice (some ⟨g, 0, none⟩) c c) (List.replicate c x) := by
  have e : fil x c c = eI (List.replicate c x) := by unfold fil; simp
  rw [e] at h
  refine ⟨by rw [eI_len]; simp, .inr ⟨g, c, _, by simp, hb, h, by simp, by unfold maxLen; omega, by simp [eI_len], ?_⟩⟩
  rw [List.take_of_length_le (by simp [eI_len])]
theorem fil_zero (x : Int) (c : Nat) : madeCells #[.int .i64 0] c = (fil x 0 c).toArray := by
  apply Array.toList_inj.1
  rw [toList_madeCells_one]
  simp [fil, eI]
theorem fil_cells {w : World} {g n c : Nat} {x : Int} (h : w.heap[g]? = some (.cells (fil x n c).toArray 3 (0, 0))) {m : Nat} (hm : m ≤ n) : ∀ j v, (eI (List.replicate m x))[j]? = some v → w.cell? ((⟨g, 0, none⟩ : Addr).add j) = some v := by
  intro j v hv
  rw [Addr.add_lit, Nat.zero_add]
  refine blk_cell h ?_
  rw [List.getElem?_toArray]
  have hj := (List.getElem?_eq_some_iff.1 hv).1
  rw [eI_len, List.length_replicate] at hj
  rw [← fil_take hm (c := c), List.getElem?_take_of_lt hj] at hv
  exact hv

set_option maxRecDepth 20000 in
set_option maxHeartbeats 1000000 in
theorem repI (c g cap : Nat) (x : Int) (w : World) (hx : w.cell? ⟨g, 0, none⟩ = some (.int .i64 x)) (hc : c ≤ 17179869184) :
    Calls Tryz.prog 32 #[.slice (some ⟨g, 0, none⟩) 1 cap, .int .i64 (c : Int)] w fun e w' => e = .returned (.slice (some ⟨w.heap.size, 0, none⟩) c c) ∧ w'.heap[w.heap.size]? = some (.cells (fil x c c).toArray 3 (0, 0)) ∧ Below w.heap.size w w' := by
  obtain ⟨i0, hi, hz0, hz1, hz2⟩ := info_parts infoI
  have hmk := fun W => run_make (P := Tryz.prog) W 25 3 i0 _ Tryz.underlying25 hi hz0 .i64 .i64 (c : Int) (c : Int) (by omega) (Int.le_refl _) (by rw [hz2]; omega) (by omega)
  simp only [hz1, Int.toNat_natCast, Nat.mul_one, Value.cells, fil_zero x] at hmk
  have hc0 : ¬ (c : Int) < 0 := by omega
  have hc1 : ¬ (9223372036854775807 : Int) < (c : Int) := by omega
  have hw1 : IntKind.u64.wrap (c : Int) = (c : Int) := by simp [IntKind.wrap, IntKind.bits, IntKind.signed]; omega
  have hw2 : IntKind.i64.wrap (c : Int) = (c : Int) := wrap64_nat' (by omega)
  have hg0 := blk_new w (.cells (fil x 0 c).toArray 3)
  have hx0 : (w.alloc (.cells (fil x 0 c).toArray 3)).cell? ⟨g, 0, none⟩ = some (.int .i64 x) := cell_on1 ((Below.refl _ _).alloc (Nat.le_refl _) _) hx
  have hm1 : min 1 c ≤ c := Nat.min_le_right _ _
  have hm2 : min 1 c ≤ 1 := Nat.min_le_left _ _
  obtain ⟨w1, hr1, hg1, ho1⟩ := run_copyI 25 Tryz.underlying25 (w.alloc (.cells (fil x 0 c).toArray 3)) 3 w.heap.size 0 c c ⟨g, 0, none⟩ 1 cap (fil x 0 c).toArray (eI (List.replicate (min 1 c) x)) hg0 (by rw [eI_len]; simp) (fun j v hv => by
      have hj := (List.getElem?_eq_some_iff.1 hv).1
      rw [eI_len, List.length_replicate] at hj
      obtain rfl : j = 0 := by omega
      have : v = .int .i64 x := by
        rw [eI_at (by simpa using hj)] at hv
        simpa using hv.symm
      rw [this, Addr.add_lit]; exact hx0) (by rw [eI_len]; simp [fil_len (x := x) (Nat.zero_le c)]; omega) (eI_one _)
  have e1 : ((fil x 0 c).toArray.toList.take 0 ++ eI (List.replicate (min 1 c) x) ++ (fil x 0 c).toArray.toList.drop (0 + (eI (List.replicate (min 1 c) x)).length)) = fil x (min 1 c) c := by
    have := fil_put (x := x) (n := 0) (m := min 1 c) (c := c) (by omega)
    rw [eI_len, List.length_replicate]
    simpa using this
  rw [e1] at hg1
  rw [eI_len, List.length_replicate] at hr1
  have B1 : Below w.heap.size w w1 := ((Below.refl _ _).alloc (Nat.le_refl _) _).trans (ho1.below (Nat.le_refl _))
  have G1 : Hid (w1.heap[w.heap.size]? = some (.cells (fil x (min 1 c) c).toArray 3 (0, 0))) := hg1
  have HB1 : Hid (Below w.heap.size w w1) := B1
  clear hg1 ho1 e1 hg0 hx0 B1 hi hz0 hz1 hz2 hx
  generalize hF0 : (fil x 0 c).toArray = F0 at *
  clear hF0
  go_enter Tryz.func32, Tryz.ntmps32
  go_wp2_with (go_at_call 56; fail)
  refine (mul_one c hc _).mono ?_
  rintro e w2 ⟨rfl, hw⟩
  obtain rfl := hw.symm
  clear hw
  go_wp2
  clear hr1 hmk
  go_loopw [8] (fun vi wr => ∃ i : Nat, i ≤ c ∧ (0 < c → 0 < i) ∧ vi = .int .i64 (i : Int) ∧ Hid (wr.heap[w.heap.size]? = some (.cells (fil x i c).toArray 3 (0, 0))) ∧ Hid (Below w.heap.size w wr)) (fun vi _ => c - (intOf vi).toNat)
  case atStart => exact ⟨min 1 c, hm1, fun _ => by omega, rfl, G1.out, HB1.out⟩
  case round =>
    obtain ⟨i, hi, hi0, rfl, HG, HB⟩ := hrel
    clear G1 HB1
    by_cases hlt : i < c
    · have hlti : (i : Int) < (c : Int) := by omega
      have hip : 0 < i := hi0 (by omega)
      have hs1 := fun W => cutI_l 25 Tryz.underlying25 W w.heap.size c c i (by omega) hlt
      have hs2 := fun W => cutI_h 25 Tryz.underlying25 W w.heap.size c c i (by omega)
      obtain ⟨m, hm⟩ : ∃ m, m = min i (c - i) := ⟨_, rfl⟩
      have hm3 : 0 < m ∧ i + m ≤ c ∧ m ≤ i := by omega
      obtain ⟨w3, hr3, hg3, ho3⟩ := run_copyI 25 Tryz.underlying25 wr.drew 3 w.heap.size i (c - i) (c - i) ⟨w.heap.size, 0, none⟩ i c (fil x i c).toArray (eI (List.replicate m x)) HG.out (by rw [eI_len, List.length_replicate, hm]) (fil_cells HG.out hm3.2.2) (by rw [eI_len, List.length_replicate, List.size_toArray, fil_len hi]; omega) (eI_one _)
      rw [eI_len, List.length_replicate] at hr3
      rw [eI_len, List.length_replicate, fil_put hm3.2.1] at hg3
      have G3 : Hid (w3.heap[w.heap.size]? = some (.cells (fil x (i + m) c).toArray 3 (0, 0))) := hg3
      have HB3 : Hid (Below w.heap.size w w3) := HB.out.trans ((Only.drew ho3).below (Nat.le_refl _))
      have hw5 : IntKind.i64.wrap ((i : Int) + (m : Int)) = (i : Int) + (m : Int) := by have := wrap64_nat' (n := i + m) (by omega); simpa using this
      have Hm : Hid _ := hm
      have Hm3 : Hid _ := hm3
      clear hg3 ho3 HG HB hm hm3
      generalize c - i = ci at *
      go_wp2
      go_region_held3 (fun w' => True) (trivial) (fail)
      go_wp2
      go_roundw
      case rel => have := Hm3.out; exact ⟨i + m, by omega, fun _ => by omega, by go_num, G3.out, HB3.out⟩
      case measure => have := Hm3.out; simp [intOf]; omega
    · obtain rfl : i = c := by omega
      have hni : ¬ (i : Int) < (i : Int) := by omega
      go_wp2
      go_ret
      exact ⟨rfl, HG.out, HB.out⟩

set_option maxRecDepth 20000 in
set_option maxHeartbeats 1000000 in
theorem repH (c g cap : Nat) (x : Int) (w : World) (hx : w.cell? ⟨g, 0, none⟩ = some (.int .i64 x)) (hc : c ≤ 17179869184) :
    Calls Tryz.prog 81 #[.slice (some ⟨g, 0, none⟩) 1 cap, .int .i64 (c : Int)] w fun e w' => e = .returned (.slice (some ⟨w.heap.size, 0, none⟩) c c) ∧ w'.heap[w.heap.size]? = some (.cells (fil x c c).toArray 3 (0, 0)) ∧ Below w.heap.size w w' := by
  obtain ⟨i0, hi, hz0, hz1, hz2⟩ := info_parts infoI
  have hmk := fun W => run_make (P := Tryz.prog) W 76 3 i0 _ Tryz.underlying76 hi hz0 .i64 .i64 (c : Int) (c : Int) (by omega) (Int.le_refl _) (by rw [hz2]; omega) (by omega)
  simp only [hz1, Int.toNat_natCast, Nat.mul_one, Value.cells, fil_zero x] at hmk
  have hc0 : ¬ (c : Int) < 0 := by omega
  have hc1 : ¬ (9223372036854775807 : Int) < (c : Int) := by omega
  have hw1 : IntKind.u64.wrap (c : Int) = (c : Int) := by simp [IntKind.wrap, IntKind.bits, IntKind.signed]; omega
  have hw2 : IntKind.i64.wrap (c : Int) = (c : Int) := wrap64_nat' (by omega)
  have hg0 := blk_new w (.cells (fil x 0 c).toArray 3)
  have hx0 : (w.alloc (.cells (fil x 0 c).toArray 3)).cell? ⟨g, 0, none⟩ = some (.int .i64 x) := cell_on1 ((Below.refl _ _).alloc (Nat.le_refl _) _) hx
  have hm1 : min 1 c ≤ c := Nat.min_le_right _ _
  have hm2 : min 1 c ≤ 1 := Nat.min_le_left _ _
  obtain ⟨w1, hr1, hg1, ho1⟩ := run_copyI 76 Tryz.underlying76 (w.alloc (.cells (fil x 0 c).toArray 3)) 3 w.heap.size 0 c c ⟨g, 0, none⟩ 1 cap (fil x 0 c).toArray (eI (List.replicate (min 1 c) x)) hg0 (by rw [eI_len]; simp) (fun j v hv => by
      have hj := (List.getElem?_eq_some_iff.1 hv).1
      rw [eI_len, List.length_replicate] at hj
      obtain rfl : j = 0 := by omega
      have : v = .int .i64 x := by
        rw [eI_at (by simpa using hj)] at hv
        simpa using hv.symm
      rw [this, Addr.add_lit]; exact hx0) (by rw [eI_len]; simp [fil_len (x := x) (Nat.zero_le c)]; omega) (eI_one _)
  have e1 : ((fil x 0 c).toArray.toList.take 0 ++ eI (List.replicate (min 1 c) x) ++ (fil x 0 c).toArray.toList.drop (0 + (eI (List.replicate (min 1 c) x)).length)) = fil x (min 1 c) c := by
    have := fil_put (x := x) (n := 0) (m := min 1 c) (c := c) (by omega)
    rw [eI_len, List.length_replicate]
    simpa using this
  rw [e1] at hg1
  rw [eI_len, List.length_replicate] at hr1
  have B1 : Below w.heap.size w w1 := ((Below.refl _ _).alloc (Nat.le_refl _) _).trans (ho1.below (Nat.le_refl _))
  have G1 : Hid (w1.heap[w.heap.size]? = some (.cells (fil x (min 1 c) c).toArray 3 (0, 0))) := hg1
  have HB1 : Hid (Below w.heap.size w w1) := B1
  clear hg1 ho1 e1 hg0 hx0 B1 hi hz0 hz1 hz2 hx
  generalize hF0 : (fil x 0 c).toArray = F0 at *
  clear hF0
  go_enter Tryz.func81, Tryz.ntmps81
  go_wp2_with (go_at_call 56; fail)
  refine (mul_one c hc _).mono ?_
  rintro e w2 ⟨rfl, hw⟩
  obtain rfl := hw.symm
  clear hw
  go_wp2
  clear hr1 hmk
  go_loopw [8] (fun vi wr => ∃ i : Nat, i ≤ c ∧ (0 < c → 0 < i) ∧ vi = .int .i64 (i : Int) ∧ Hid (wr.heap[w.heap.size]? = some (.cells (fil x i c).toArray 3 (0, 0))) ∧ Hid (Below w.heap.size w wr)) (fun vi _ => c - (intOf vi).toNat)
  case atStart => exact ⟨min 1 c, hm1, fun _ => by omega, rfl, G1.out, HB1.out⟩
  case round =>
    obtain ⟨i, hi, hi0, rfl, HG, HB⟩ := hrel
    clear G1 HB1
    by_cases hlt : i < c
    · have hlti : (i : Int) < (c : Int) := by omega
      have hip : 0 < i := hi0 (by omega)
      have hs1 := fun W => cutI_l 76 Tryz.underlying76 W w.heap.size c c i (by omega) hlt
      have hs2 := fun W => cutI_h 76 Tryz.underlying76 W w.heap.size c c i (by omega)
      obtain ⟨m, hm⟩ : ∃ m, m = min i (c - i) := ⟨_, rfl⟩
      have hm3 : 0 < m ∧ i + m ≤ c ∧ m ≤ i := by omega
      obtain ⟨w3, hr3, hg3, ho3⟩ := run_copyI 76 Tryz.underlying76 wr.drew 3 w.heap.size i (c - i) (c - i) ⟨w.heap.size, 0, none⟩ i c (fil x i c).toArray (eI (List.replicate m x)) HG.out (by rw [eI_len, List.length_replicate, hm]) (fil_cells HG.out hm3.2.2) (by rw [eI_len, List.length_replicate, List.size_toArray, fil_len hi]; omega) (eI_one _)
      rw [eI_len, List.length_replicate] at hr3
      rw [eI_len, List.length_replicate, fil_put hm3.2.1] at hg3
      have G3 : Hid (w3.heap[w.heap.size]? = some (.cells (fil x (i + m) c).toArray 3 (0, 0))) := hg3
      have HB3 : Hid (Below w.heap.size w w3) := HB.out.trans ((Only.drew ho3).below (Nat.le_refl _))
      have hw5 : IntKind.i64.wrap ((i : Int) + (m : Int)) = (i : Int) + (m : Int) := by have := wrap64_nat' (n := i + m) (by omega); simpa using this
      have Hm : Hid _ := hm
      have Hm3 : Hid _ := hm3
      clear hg3 ho3 HG HB hm hm3
      generalize c - i = ci at *
      go_wp2
      go_region_held3 (fun w' => True) (trivial) (fail)
      go_wp2
      go_roundw
      case rel => have := Hm3.out; exact ⟨i + m, by omega, fun _ => by omega, by go_num, G3.out, HB3.out⟩
      case measure => have := Hm3.out; simp [intOf]; omega
    · obtain rfl : i = c := by omega
      have hni : ¬ (i : Int) < (i : Int) := by omega
      go_wp2
      go_ret
      exact ⟨rfl, HG.out, HB.out⟩
end Go.Proofs.YtcjpjofoddpfhaaGreat
