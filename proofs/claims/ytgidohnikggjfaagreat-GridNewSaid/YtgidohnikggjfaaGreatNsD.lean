/-
  slices.Compact of rows of spans and of prefixes. Written by tools/mkNsD.py.
-/
import Derived.Test.YtgidohnikggjfaaGreatNsC
namespace Go.Proofs.YtgidohnikggjfaaGreat
open Go.RowKit Go.Lib
set_option linter.unusedVariables false
set_option linter.unusedSimpArgs false

theorem set_toL (d : Array (Nat × Nat)) (k : Nat) (x : Nat × Nat) (h : k < d.size) : d.toList.take k ++ [x] ++ d.toList.drop (k + [x].length) = (d.setIfInBounds k x).toList := by
  rw [Array.toList_setIfInBounds, List.set_eq_take_append_cons_drop, if_pos (by simpa using h)]
  simp
theorem take_done {d dk : Array (Nat × Nat)} {k : Nat} (h : CompInv d d.size k dk) : dk.toList.take k = compactUpTo d d.size := by
  apply List.ext_getElem?
  intro j
  by_cases hj : j < k
  · have hs := h.size
    have hl := h.lt
    rw [h.low j hj, List.getElem?_take_of_lt hj, Array.getElem?_toList, Array.getElem?_eq_getElem (by omega), getElem!_pos dk j (by omega)]
  · rw [List.getElem?_take_eq_none (by omega), List.getElem?_eq_none (by rw [h.len]; omega)]

theorem wpList_storeS {ops : Array Oper} {rest : List Oper} {o : Oper} {a : Act} {w : World} {Q : Exit → Act → World → Prop} (hgd : o.guard = none) (x y : Operand) (ho : o.op = .store 60 x y)
    (b g n cap : Nat) (l : List (Nat × Nat)) (hr : RowS w b (.slice (some ⟨g, 0, none⟩) n cap) l) (p : Nat) (hp : p < n) (R : Nat × Nat) (hx : a.eval x = .pointer (some ⟨g, p * 2, none⟩)) (hy : a.eval y = .agg #[.int .u16 (R.1 : Int), .int .u16 (R.2 : Int)])
    (hK : ∀ w', RowS w' b (.slice (some ⟨g, 0, none⟩) n cap) (l.take p ++ [R] ++ l.drop (p + [R].length)) → w.grownBy w' (some g) → wpList Tryz.prog ops Q rest (a.put o.dst undef) w') : wpList Tryz.prog ops Q (o :: rest) a w :=
  wpList_plain hgd fun K hK' => wp_storeS x y ho b g n cap l hr p hp R hx hy fun w' h1 h2 => hK' _ _ (hK w' h1 h2)
theorem cutX_l (w : World) (g n cap l : Nat) (y : Int) (hy : y = (l : Int)) (h1 : l ≤ n) (h2 : l < cap) : (Instr.sliceAt 139 (.slice (some ⟨g, 0, none⟩) n cap) (some (.int .i64 y)) none none).run Tryz.prog w = .ok (.slice (some ⟨g, l * 2, none⟩) (n - l) (cap - l)) w := by
  subst hy
  obtain ⟨i0, hi, hz0, hz1, hz2⟩ := info_parts infoX
  have el : Tryz.prog.elem 139 = 58 := by kernel_rfl
  have un : Tryz.prog.underlying 139 = some (.slice (Tryz.prog.elem 139)) := by rw [el]; exact Tryz.underlying139
  have sz : ∀ w, (sizeOf 58).run Tryz.prog w = .ok 2 w := fun w => by simp [sizeOf, typeInfo, hi, hz1]
  rw [run_sliceAt_slice _ _ _ _ _ _ un, run_slice_l w _ _ n cap un .i64 l (by omega) (by omega), el, sz]
  have : ¬ cap = l := by omega
  simp [Result.andThen, sliced, this, Addr.add]
  intro h; omega
theorem cutX_h (w : World) (g n cap h : Nat) (h2 : h ≤ cap) : (Instr.sliceAt 139 (.slice (some ⟨g, 0, none⟩) n cap) none (some (.int .i64 (h : Int))) none).run Tryz.prog w = .ok (.slice (some ⟨g, 0, none⟩) h cap) w := by
  obtain ⟨i0, hi, hz0, hz1, hz2⟩ := info_parts infoX
  have el : Tryz.prog.elem 139 = 58 := by kernel_rfl
  have un : Tryz.prog.underlying 139 = some (.slice (Tryz.prog.elem 139)) := by rw [el]; exact Tryz.underlying139
  have sz : ∀ w, (sizeOf 58).run Tryz.prog w = .ok 2 w := fun w => by simp [sizeOf, typeInfo, hi, hz1]
  rw [run_sliceAt_slice _ _ _ _ _ _ un, run_slice_h w _ _ n cap un .i64 h (by omega) (by omega), el, sz]
  simp [Result.andThen, sliced, Addr.add]
theorem wpList_storeX {ops : Array Oper} {rest : List Oper} {o : Oper} {a : Act} {w : World} {Q : Exit → Act → World → Prop} (hgd : o.guard = none) (x y : Operand) (ho : o.op = .store 58 x y)
    (b g n cap : Nat) (l : List (Nat × Nat)) (hr : RowX w b (.slice (some ⟨g, 0, none⟩) n cap) l) (p : Nat) (hp : p < n) (R : Nat × Nat) (hx : a.eval x = .pointer (some ⟨g, p * 2, none⟩)) (hy : a.eval y = .agg #[.int .u32 (R.1 : Int), .int .i64 (R.2 : Int)])
    (hK : ∀ w', RowX w' b (.slice (some ⟨g, 0, none⟩) n cap) (l.take p ++ [R] ++ l.drop (p + [R].length)) → w.grownBy w' (some g) → wpList Tryz.prog ops Q rest (a.put o.dst undef) w') : wpList Tryz.prog ops Q (o :: rest) a w :=
  wpList_plain hgd fun K hK' => wp_storeX x y ho b g n cap l hr p hp R hx hy fun w' h1 h2 => hK' _ _ (hK w' h1 h2)
set_option maxRecDepth 20000 in
set_option maxHeartbeats 2000000 in
theorem compX (d : Array (Nat × Nat)) (b g n cap : Nat) (w : World) (hr : RowX w b (.slice (some ⟨g, 0, none⟩) n cap) d.toList) (hl : n ≤ 4294967296) :
    Calls Tryz.prog 101 #[.slice (some ⟨g, 0, none⟩) n cap] w fun e w' => ∃ n' : Nat, e = .returned (.slice (some ⟨g, 0, none⟩) n' cap) ∧ RowX w' b (.slice (some ⟨g, 0, none⟩) n' cap) (compactUpTo d d.size) ∧ w.grownBy w' (some g) := by
  obtain ⟨hn, hcap⟩ := rowLenX hr
  rw [Array.length_toList] at hn
  have Hn : Hid (n = d.size) := hn
  have Hcap : Hid (n ≤ cap) := hcap
  have same : Hid (∀ w', RowX w' b (.slice (some ⟨g, 0, none⟩) n cap) d.toList → (∀ j, j < n → keeps d j = true) → RowX w' b (.slice (some ⟨g, 0, none⟩) n cap) (compactUpTo d d.size)) := by
    intro w' h' hall
    have e : compactUpTo d d.size = d.toList := by
      have := comp_all (l := d.toList) (by simpa [hn] using hall)
      simpa using this
    rw [e]; exact h'
  have HR : Hid (RowX w b (.slice (some ⟨g, 0, none⟩) n cap) d.toList) := hr
  clear hr hn hcap
  by_cases h2 : n < 2
  · have h2i : (n : Int) < 2 := by omega
    go_enter Tryz.func101, Tryz.ntmps101
    go_wp2
    go_ret
    exact ⟨n, rfl, same.out _ HR.out (fun j hj => keeps_lt_one d j (by omega)), ⟨rfl, rfl, rfl, Nat.le_refl _, fun _ _ _ => rfl⟩⟩
  · have h2i : ¬ (n : Int) < 2 := by omega
    go_enter Tryz.func101, Tryz.ntmps101
    go_wp2
    go_loopw [3] (fun s3 wr => ∃ j : Nat, j < n ∧ s3 = .int .i64 ((j : Int) + 1) ∧ Hid (RowX wr b (.slice (some ⟨g, 0, none⟩) n cap) d.toList) ∧ Hid (w.grownBy wr (some g)) ∧ Hid (∀ i, i < j + 1 → keeps d i = true)) (fun s3 _ => n - (intOf s3).toNat)
    case atStart => exact ⟨0, by omega, rfl, HR.out, ⟨rfl, rfl, rfl, Nat.le_refl _, fun _ _ _ => rfl⟩, keeps_lt_one d⟩
    case round =>
      obtain ⟨j, hj, rfl, HRq, HGq, A⟩ := hrel
      clear HR
      by_cases hlt : j + 1 < n
      · have nd := Hn.out
        obtain ⟨⟨c1, c2⟩, f1, f2⟩ := rowCellsX HRq.out (k := j + 1) (by rw [Array.length_toList]; omega)
        obtain ⟨⟨c3, c4⟩, f3, f4⟩ := rowCellsX HRq.out (k := j) (by rw [Array.length_toList]; omega)
        rw [toL] at c1 c2 c3 c4
        have hlti : (j : Int) + 1 < (n : Int) := by omega
        have hji : (0 : Int) ≤ (j : Int) + 1 := by omega
        have hj2 : (j : Int) < (n : Int) := by omega
        have tn : ((j : Int) + 1).toNat = j + 1 := by omega
        clear f1 f2 f3 f4 nd
        generalize hx : d[j + 1]! = x at c1 c2
        generalize hy : d[j]! = y at c3 c4
        have B : Hid (d[j + 1]! = x ∧ d[j]! = y) := ⟨hx, hy⟩
        clear hx hy
        have he := fun W => eqX_any x y W
        by_cases hdup : x = y
        · rw [decide_eq_true hdup] at he
          have hs1 := fun W => cutX_l W g n cap (j + 1) ((j : Int) + 1) (by omega) (by omega) (by have := Hcap.out; omega)
          have C0 : Hid (CompInv d (j + 1 + 1) (j + 1) d) := CompInv.start A.out (keeps_neg (by omega) (by have := B.out; rw [Nat.add_sub_cancel, this.1, this.2]; exact hdup))
          obtain ⟨m, hm⟩ : ∃ m, m = n - (j + 1) := ⟨_, rfl⟩
          rw [← hm] at hs1
          have Hm : Hid (m = n - (j + 1)) := hm
          generalize cap - (j + 1) = cq at hs1
          have hmn : m ≤ 4294967296 := by omega
          clear hm
          go_wp2
          go_quiet (fail)
          go_wp2
          clear c1 c2 c3 c4 he hs1 hdup A B same
          go_loopw [3, 5] (fun s3 s5 wr => ∃ (kk t : Nat) (dk : Array (Nat × Nat)), t + 1 ≤ m ∧ s3 = .int .i64 (kk : Int) ∧ s5 = .int .i64 ((t : Int) + 1) ∧ Hid (RowX wr b (.slice (some ⟨g, 0, none⟩) n cap) dk.toList) ∧ Hid (w.grownBy wr (some g)) ∧ Hid (CompInv d (j + t + 2) kk dk)) (fun _ s5 _ => m - (intOf s5).toNat)
          case atStart => have := Hm.out; exact ⟨j + 1, 0, d, by omega, by simp, rfl, HRq.out, grown_drewN HGq.out _, C0.out⟩
          case round =>
            obtain ⟨kk, t, dk, ht, rfl, rfl, HR2, HG2, HC⟩ := hrel
            clear C0 HRq HGq
            have mm := Hm.out
            have nd := Hn.out
            have ks := HC.out.size
            have kl := HC.out.lt
            by_cases hlt2 : t + 1 < m
            · obtain ⟨⟨c1, c2⟩, f1, f2⟩ := rowCellsX HR2.out (k := j + t + 2) (by rw [Array.length_toList]; omega)
              obtain ⟨⟨c3, c4⟩, f3, f4⟩ := rowCellsX HR2.out (k := j + t + 1) (by rw [Array.length_toList]; omega)
              rw [toL, HC.out.high _ (by omega)] at c1 c2 c3 c4
              rw [show (j + t + 2) * 2 = (j + 1) * 2 + (t + 1) * 2 by omega] at c1 c2
              rw [show (j + t + 1) * 2 = (j + 1) * 2 + t * 2 by omega] at c3 c4
              have hlti2 : (t : Int) + 1 < (m : Int) := by omega
              have hji2 : (0 : Int) ≤ (t : Int) + 1 := by omega
              have hj22 : (t : Int) < (m : Int) := by omega
              have tn2 : ((t : Int) + 1).toNat = t + 1 := by omega
              have hkn : kk < n := by omega
              have hkni : (kk : Int) < (n : Int) := by omega
              clear f1 f2 f3 f4
              generalize hx : d[j + t + 2]! = x at c1 c2
              generalize hy : d[j + t + 1]! = y at c3 c4
              have B : Hid (d[j + t + 2]! = x ∧ d[j + t + 1]! = y) := ⟨hx, hy⟩
              clear hx hy nd ks kl mm
              have he := fun W => neX_any x y W
              by_cases hdup : x = y
              · rw [decide_eq_true hdup] at he
                have C1 : Hid (CompInv d (j + t + 2 + 1) kk dk) := HC.out.skip (keeps_neg (by omega) (by rw [show j + t + 2 - 1 = j + t + 1 by omega, B.out.1, B.out.2]; exact hdup))
                simp only [Bool.not_true] at he
                go_wp2
                go_quiet (fail)
                go_wp2
                go_roundw
                case rel => exact ⟨kk, t + 1, dk, by omega, rfl, by go_num, HR2.out, ⟨HG2.out.os, HG2.out.tape, HG2.out.output, HG2.out.size, HG2.out.block⟩, by rw [show j + (t + 1) + 2 = j + t + 2 + 1 by omega]; exact C1.out⟩
                case measure => simp [intOf]; omega
              · rw [decide_eq_false hdup] at he
                have C1 : Hid (CompInv d (j + t + 2 + 1) (kk + 1) (dk.setIfInBounds kk x)) := by
                  have := HC.out.keep (by have := Hn.out; have := Hm.out; omega) (keeps_pos (m := j + t + 2) (by rw [show j + t + 2 - 1 = j + t + 1 by omega, B.out.1, B.out.2]; exact hdup))
                  rwa [B.out.1] at this
                simp only [Bool.not_false] at he
                go_wp2
                go_quiet (fail)
                go_wp2_with (refine wpList_storeX rfl (.tmp 51) (.tmp 50) rfl b g n cap dk.toList HR2.out kk hkn x rfl rfl ?_; intro w3 hr3 hg3)
                have R3 : Hid (RowX w3 b (.slice (some ⟨g, 0, none⟩) n cap) (dk.setIfInBounds kk x).toList) := by
                  rw [set_toL dk kk x (by have := HC.out.size; have := Hn.out; omega)] at hr3
                  exact hr3
                have G3 : Hid (w.grownBy w3 (some g)) := World.grownBy.trans (grown_drewN HG2.out _) hg3
                clear hr3 hg3
                go_roundw
                case rel => exact ⟨kk + 1, t + 1, dk.setIfInBounds kk x, by omega, by go_num, by go_num, R3.out, G3.out, by rw [show j + (t + 1) + 2 = j + t + 2 + 1 by omega]; exact C1.out⟩
                case measure => simp [intOf]; omega
            · obtain rfl : m = t + 1 := by omega
              have hni : ¬ (t : Int) + 1 < ((t + 1 : Nat) : Int) := by omega
              have hkn : kk < n := by omega
              obtain ⟨w4, hr4, hrow4, hg4⟩ := run_clearX wr 0 b g n cap kk dk.toList HR2.out hkn
              have hs3 := fun W => cutX_l W g n cap kk (kk : Int) rfl (by omega) (by have := Hcap.out; omega)
              have hs4 := fun W => cutX_h W g n cap kk (by have := Hcap.out; omega)
              have R4 : Hid (RowX w4 b (.slice (some ⟨g, 0, none⟩) kk cap) (compactUpTo d d.size)) := by
                have e : j + t + 2 = d.size := by omega
                have hc := HC.out
                rw [e] at hc
                rw [← take_done hc]; exact hrow4
              have G4 : Hid (w.grownBy w4 (some g)) := World.grownBy.trans HG2.out hg4
              clear hrow4 hg4 nd ks kl mm
              go_wp2
              go_ret
              exact ⟨kk, rfl, R4.out, G4.out⟩
        · rw [decide_eq_false hdup] at he
          have A1 : Hid (∀ i, i < j + 1 + 1 → keeps d i = true) := fun i hi => by
            by_cases e : i = j + 1
            · subst e; exact keeps_pos (by have := B.out; rw [Nat.add_sub_cancel, this.1, this.2]; exact hdup)
            · exact A.out i (by omega)
          go_wp2
          go_quiet (fail)
          go_wp2
          go_roundw
          case rel => exact ⟨j + 1, by omega, by go_num, HRq.out, ⟨HGq.out.os, HGq.out.tape, HGq.out.output, HGq.out.size, HGq.out.block⟩, A1.out⟩
          case measure => simp [intOf]; omega
      · obtain rfl : n = j + 1 := by omega
        have hni : ¬ (j : Int) + 1 < ((j + 1 : Nat) : Int) := by omega
        go_wp2
        go_ret
        exact ⟨j + 1, rfl, same.out _ HRq.out A.out, HGq.out⟩
end Go.Proofs.YtgidohnikggjfaaGreat
