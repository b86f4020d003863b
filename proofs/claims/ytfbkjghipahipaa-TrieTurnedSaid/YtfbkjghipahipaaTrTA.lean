/-
  TrieTurned where the width is 8. Written by tools/mkTrTw.py.
-/
import Derived.Test.YtfbkjghipahipaaTrTq
namespace Go.Proofs.Ytfbkjghipahipaa
open Go.RowKit Go.Shelf
set_option linter.unusedVariables false
set_option linter.unusedSimpArgs false

set_option maxRecDepth 20000 in
set_option maxHeartbeats 8000000 in
theorem trieTurned_8 (Wi : Int) (Wd : Nat) (hWd : Wi = (Wd : Int)) (l : List Opx) (bd : ∀ R ∈ l, BdE R) (w : World) (ad : Option Addr) (n cap : Nat) (Hn : Hid (n = l.length)) (hl : n ≤ 4000) (HS : Hid (SrcV w (.slice ad n cap) l)) (hWi : Wi = 8) :
    Calls Try.prog 5 #[.int .i64 Wi, .slice ad n cap] w fun e w' => e = .returned (.bool true) ∧ Below w.heap.size w w' := by
  have Hp : Hid (∀ (L : List Opx) (W : World) (u : Value), (∀ o ∈ L, o.a < 4294967296) → L.length ≤ 16777216 → SrcO W u L → Calls Try.prog 10 #[.int .i64 Wi, u] W fun e W' => ∃ t v, e = .returned (.pointer (some ⟨t, 0, none⟩)) ∧ Own W W' t v Wd 1048576 (ply Wd 1048576 L).1 (ply Wd 1048576 L).2) := fun L W u h1 h2 h3 => by
    rw [hWd]; exact playedC Wd (by unfold okN; exact decide_eq_true ⟨by omega, by omega, by omega⟩) L h1 h2 u W h3
  have HW : Hid (Wd ≤ 32) := by show _ ≤ _; omega
  clear hWd
  subst hWi
  have hl' : ¬ (4000 : Int) < (n : Int) := by omega
  have HB : Hid (Below w.heap.size w w) := Below.refl _ _
  go_enter Try.func5, Try.ntmps5
  go_wp2_with (fail)
  go_loopw [5] (fun s5 wr => ∃ i : Nat, i ≤ n ∧ s5 = .int .i64 (i : Int) ∧ Hid (∀ a b, a < b → b < i → Ne2 l a b) ∧ Hid (Below w.heap.size w wr)) (fun s5 _ => n - (intOf s5).toNat)
  case atStart => exact ⟨0, Nat.zero_le _, rfl, fun a b hab hb => absurd hb (Nat.not_lt_zero _), HB.out⟩
  case round =>
    clear HB
    obtain ⟨i, hi, rfl, HN, HB⟩ := hrel
    by_cases hin : i < n
    · have hin1 : (i : Int) < (n : Int) := by omega
      have hin2 : ¬ n ≤ i := by omega
      have hil : i < l.length := by have := Hn.out; omega
      go_wp2_with (fail)
      go_loopw [6] (fun s6 wr => ∃ k : Nat, k ≤ i ∧ s6 = .int .i64 (k : Int) ∧ Hid (∀ a, a < k → Ne2 l a i) ∧ Hid (Below w.heap.size w wr)) (fun s6 _ => i - (intOf s6).toNat)
      case atStart => exact ⟨0, Nat.zero_le _, rfl, fun a ha => absurd ha (Nat.not_lt_zero _), HB.out⟩
      case round =>
        clear HB
        obtain ⟨k, hk, rfl, HN2, HB⟩ := hrel
        by_cases hki : k < i
        · have hki1 : (k : Int) < (i : Int) := by omega
          have hkn : (k : Int) < (n : Int) := by omega
          have hkn2 : ¬ n ≤ k := by omega
          have hkl : k < l.length := by omega
          obtain ⟨g, off, rfl, x0, x1, _⟩ := HS.out.cells hil HB.out
          obtain ⟨g', off', e', y0, y1, _⟩ := HS.out.cells hkl HB.out
          injection e' with e'
          injection e' with e1 e2
          subst e1 e2
          have hgl : g < wr.heap.size := World.block_lt_of_cell? wr _ x0
          have HQ : Hid (¬ (l[k].a = l[i].a ∧ l[k].n = l[i].n) → Ne2 l k i) := fun h _ _ => h
          generalize l[i] = p at *
          generalize l[k] = q at *
          by_cases ha : (p.a : Int) = (q.a : Int)
          · by_cases hn : p.n = q.n
            · go_upto_region 9 with (fail)
              have kne : Nonempty (Kin (wr)) := ⟨⟨_, Below.refl _ _⟩⟩
              have kc0 : ∀ y : Kin (wr), y.val.cell? ⟨g, off + i * 3, none⟩ = some (.int .u32 (p.a : Int)) := fun y => by rw [kin_cell (by first | omega | (simp <;> omega))]; first | assumption | (simp [go_sem]; done) | simp [go_sem, *]
              have kc1 : ∀ y : Kin (wr), y.val.cell? ⟨g, off + i * 3 + 1, none⟩ = some (.int .i64 p.n) := fun y => by rw [kin_cell (by first | omega | (simp <;> omega))]; first | assumption | (simp [go_sem]; done) | simp [go_sem, *]
              have kc2 : ∀ y : Kin (wr), y.val.cell? ⟨g, off + k * 3, none⟩ = some (.int .u32 (q.a : Int)) := fun y => by rw [kin_cell (by first | omega | (simp <;> omega))]; first | assumption | (simp [go_sem]; done) | simp [go_sem, *]
              have kc3 : ∀ y : Kin (wr), y.val.cell? ⟨g, off + k * 3 + 1, none⟩ = some (.int .i64 q.n) := fun y => by rw [kin_cell (by first | omega | (simp <;> omega))]; first | assumption | (simp [go_sem]; done) | simp [go_sem, *]
              refine wp_region_kin (wr) (Below.refl _ _) (by kernel_rfl) (by kernel_rfl) ?_
              repeat (go_big_quiet_step (fail))
              refine wpQuiet_nil ?_
              rintro wq ⟨⟨xq, hxq⟩, hyq⟩
              have hq : Below (wr).heap.size (wr) wq := by rw [hyq]; exact hxq
              clear hyq hxq xq
              clear kne kc0 kc1 kc2 kc3
              obtain ⟨hcq, hfq⟩ := bcell hq
              have hzq := hq.size
              try simp at hzq
              go_wp2_with (fail)
              refine (awakeC _).mono ?_
              rintro e w9 ⟨rfl, hw9⟩
              go_wp2_with (fail)
              go_ret
              exact ⟨rfl, (HB.out.trans (Below.mono hq HB.out.size)).trans (Below.mono hw9 (HB.out.trans (Below.mono hq HB.out.size)).size)⟩
            · have HNq : Hid (Ne2 l k i) := HQ.out fun h => hn h.2.symm
              go_upto_region 9 with (fail)
              have kne : Nonempty (Kin (wr)) := ⟨⟨_, Below.refl _ _⟩⟩
              have kc0 : ∀ y : Kin (wr), y.val.cell? ⟨g, off + i * 3, none⟩ = some (.int .u32 (p.a : Int)) := fun y => by rw [kin_cell (by first | omega | (simp <;> omega))]; first | assumption | (simp [go_sem]; done) | simp [go_sem, *]
              have kc1 : ∀ y : Kin (wr), y.val.cell? ⟨g, off + i * 3 + 1, none⟩ = some (.int .i64 p.n) := fun y => by rw [kin_cell (by first | omega | (simp <;> omega))]; first | assumption | (simp [go_sem]; done) | simp [go_sem, *]
              have kc2 : ∀ y : Kin (wr), y.val.cell? ⟨g, off + k * 3, none⟩ = some (.int .u32 (q.a : Int)) := fun y => by rw [kin_cell (by first | omega | (simp <;> omega))]; first | assumption | (simp [go_sem]; done) | simp [go_sem, *]
              have kc3 : ∀ y : Kin (wr), y.val.cell? ⟨g, off + k * 3 + 1, none⟩ = some (.int .i64 q.n) := fun y => by rw [kin_cell (by first | omega | (simp <;> omega))]; first | assumption | (simp [go_sem]; done) | simp [go_sem, *]
              refine wp_region_kin (wr) (Below.refl _ _) (by kernel_rfl) (by kernel_rfl) ?_
              repeat (go_big_quiet_step (fail))
              refine wpQuiet_nil ?_
              rintro wq ⟨⟨xq, hxq⟩, hyq⟩
              have hq : Below (wr).heap.size (wr) wq := by rw [hyq]; exact hxq
              clear hyq hxq xq
              clear kne kc0 kc1 kc2 kc3
              obtain ⟨hcq, hfq⟩ := bcell hq
              have hzq := hq.size
              try simp at hzq
              go_wp2_with (fail)
              go_roundw
              case rel => exact ⟨k + 1, by omega, by go_num, fun a hak => by
                rcases Nat.lt_or_ge a k with h | h
                · exact HN2.out a h
                · obtain rfl : a = k := by omega
                  exact HNq.out, HB.out.trans (Below.mono hq HB.out.size)⟩
              case measure => simp [intOf]; omega
          · have HNq : Hid (Ne2 l k i) := HQ.out fun h => ha (by rw [h.1])
            have ha2 : ¬ p.a = q.a := fun h => ha (by rw [h])
            have ha3 : ((p.a : Int) == (q.a : Int)) = false := beq_eq_false_iff_ne.2 ha
            go_upto_region 9 with (fail)
            have kne : Nonempty (Kin (wr)) := ⟨⟨_, Below.refl _ _⟩⟩
            have kc0 : ∀ y : Kin (wr), y.val.cell? ⟨g, off + i * 3, none⟩ = some (.int .u32 (p.a : Int)) := fun y => by rw [kin_cell (by first | omega | (simp <;> omega))]; first | assumption | (simp [go_sem]; done) | simp [go_sem, *]
            have kc1 : ∀ y : Kin (wr), y.val.cell? ⟨g, off + i * 3 + 1, none⟩ = some (.int .i64 p.n) := fun y => by rw [kin_cell (by first | omega | (simp <;> omega))]; first | assumption | (simp [go_sem]; done) | simp [go_sem, *]
            have kc2 : ∀ y : Kin (wr), y.val.cell? ⟨g, off + k * 3, none⟩ = some (.int .u32 (q.a : Int)) := fun y => by rw [kin_cell (by first | omega | (simp <;> omega))]; first | assumption | (simp [go_sem]; done) | simp [go_sem, *]
            have kc3 : ∀ y : Kin (wr), y.val.cell? ⟨g, off + k * 3 + 1, none⟩ = some (.int .i64 q.n) := fun y => by rw [kin_cell (by first | omega | (simp <;> omega))]; first | assumption | (simp [go_sem]; done) | simp [go_sem, *]
            refine wp_region_kin (wr) (Below.refl _ _) (by kernel_rfl) (by kernel_rfl) ?_
            repeat (go_big_quiet_step (fail))
            refine wpQuiet_nil ?_
            rintro wq ⟨⟨xq, hxq⟩, hyq⟩
            have hq : Below (wr).heap.size (wr) wq := by rw [hyq]; exact hxq
            clear hyq hxq xq
            clear kne kc0 kc1 kc2 kc3
            obtain ⟨hcq, hfq⟩ := bcell hq
            have hzq := hq.size
            try simp at hzq
            go_wp2_with (fail)
            go_roundw
            case rel => exact ⟨k + 1, by omega, by go_num, fun a hak => by
              rcases Nat.lt_or_ge a k with h | h
              · exact HN2.out a h
              · obtain rfl : a = k := by omega
                exact HNq.out, HB.out.trans (Below.mono hq HB.out.size)⟩
            case measure => simp [intOf]; omega
        · obtain rfl : k = i := by omega
          have hni : ¬ (k : Int) < (k : Int) := by omega
          go_wp2_with (fail)
          go_roundw
          case rel => exact ⟨k + 1, by omega, by go_num, fun a b hab hb => by
            rcases Nat.lt_or_ge b k with h | h
            · exact HN.out a b hab h
            · obtain rfl : b = k := by omega
              exact HN2.out a hab, HB.out⟩
          case measure => simp [intOf]; omega
    · obtain rfl : i = n := by omega
      have hnin : ¬ (i : Int) < (i : Int) := by omega
      go_wp2_with (fail)
      generalize i = n at *
      go_loopw [7, 8, 9] (fun s7 s8 s9 wr => ∃ (k : Nat) (v7 v8 : Value), k ≤ n ∧ v7 = s7 ∧ v8 = s8 ∧ s9 = .int .i64 (k : Int) ∧ Hid (RowQ wr w.heap.size v7 (l.take k)) ∧ Hid (RowQ wr w.heap.size v8 (l.reverse.take k)) ∧ Hid (∀ q, v7.ownBlock = some q → v8.ownBlock ≠ some q) ∧ Hid (Below w.heap.size w wr)) (fun _ _ s9 _ => n - (intOf s9).toNat)
      case atStart => exact ⟨0, _, _, Nat.zero_le _, rfl, rfl, rfl, RowQ.nil _ _, RowQ.nil _ _, (fun q hq => by cases hq), HB.out⟩
      case round =>
        clear HB
        obtain ⟨k, v7, v8, hk, rfl, rfl, rfl, HR7, HR8, HNE, HB⟩ := hrel
        by_cases hlt : k < n
        · have hlt1 : (k : Int) < (n : Int) := by omega
          have hlt2 : ¬ n ≤ k := by omega
          have hkl : k < l.length := by have := Hn.out; omega
          obtain ⟨rk, hrk⟩ : ∃ rk, rk = n - 1 - k := ⟨_, rfl⟩
          have hrl : rk < l.length := by have := Hn.out; omega
          have hrn : (rk : Int) < (n : Int) := by omega
          have hrn2 : ¬ n ≤ rk := by omega
          have hw1 : IntKind.i64.wrap ((n : Int) - 1) = (n : Int) - 1 := by rw [IntKind.wrap_i64]; omega
          have hw2 : IntKind.i64.wrap ((n : Int) - 1 - (k : Int)) = (rk : Int) := by rw [IntKind.wrap_i64]; omega
          have hwk : IntKind.i64.wrap ((k : Int) + 1) = (k : Int) + 1 := by rw [IntKind.wrap_i64]; omega
          have HT7 : Hid (l.take (k + 1) = l.take k ++ [l[k]]) := takeS l k hkl
          have HT8 : Hid (l.reverse.take (k + 1) = l.reverse.take k ++ [l[rk]]) := by
            show _ = _
            rw [takeS l.reverse k (by rw [List.length_reverse]; exact hkl), List.getElem_reverse]
            congr 3; have := Hn.out; omega
          have HL7 : Hid ((l.take k).length ≤ 4000) := by show _ ≤ _; rw [List.length_take]; omega
          have HL8 : Hid ((l.reverse.take k).length ≤ 4000) := by show _ ≤ _; rw [List.length_take]; omega
          obtain ⟨bp1, bp2, -⟩ := bd _ (List.getElem_mem hkl)
          obtain ⟨bq1, bq2, -⟩ := bd _ (List.getElem_mem hrl)
          obtain ⟨g, off, rfl, x0, x1, x2⟩ := HS.out.cells hkl HB.out
          have HX : Hid (∀ W, Below w.heap.size w W → W.cell? ⟨g, off + k * 3, none⟩ = some (.int .u32 (l[k].a : Int)) ∧ W.cell? ⟨g, off + k * 3 + 1, none⟩ = some (.int .i64 l[k].n) ∧ W.cell? ⟨g, off + k * 3 + 2, none⟩ = some (.int .i64 l[k].v)) := fun W hb => by
            obtain ⟨g', off', e', z0, z1, z2⟩ := HS.out.cells hkl hb
            injection e' with e'
            injection e' with e1 e2
            subst e1 e2
            exact ⟨z0, z1, z2⟩
          obtain ⟨g', off', e', y0, y1, y2⟩ := HS.out.cells hrl HB.out
          injection e' with e'
          injection e' with e1 e2
          subst e1 e2
          clear x0 x1 x2
          generalize l[k] = p at *
          generalize l[rk] = q at *
          obtain ⟨pk, ps, pa, pn, pv⟩ := p
          obtain ⟨qk, qs, qa, qn, qv⟩ := q
          dsimp only at bp1 bp2 bq1 bq2 HX y0 y1 y2
          subst bp1 bp2 bq1 bq2
          clear hrk
          go_upto_region 17 with (fail)
          have c0 := blk_new wr (.cells #[.int .u32 (qa : Int), .int .i64 qn, .int .i64 qv] 45)
          have HB1 : Below w.heap.size w (wr.alloc (.cells #[.int .u32 (qa : Int), .int .i64 qn, .int .i64 qv] 45)) := HB.out.alloc HB.out.size _
          have r7 := HR7.out.alloc (.cells #[.int .u32 (qa : Int), .int .i64 qn, .int .i64 qv] 45)
          have r8 := HR8.out.alloc (.cells #[.int .u32 (qa : Int), .int .i64 qn, .int .i64 qv] 45)
          obtain ⟨B, hB⟩ : ∃ B, B = wr.heap.size := ⟨_, rfl⟩
          have HB7 : Hid (v7.ownBlock ≠ some B) := fun e => by have := (HR7.out.lt B e).2; omega
          have HB8 : Hid (v8.ownBlock ≠ some B) := fun e => by have := (HR8.out.lt B e).2; omega
          have hBl : B < (wr.alloc (.cells #[.int .u32 (qa : Int), .int .i64 qn, .int .i64 qv] 45)).heap.size := by simp; omega
          rw [← hB] at c0 ⊢
          generalize wr.alloc (.cells #[.int .u32 (qa : Int), .int .i64 qn, .int .i64 qv] 45) = W1 at *
          clear hB y0 y1 y2 HR7 HR8 HB hw1 hw2 hrn hrn2
          refine wp_region_held_drew (S := fun w' => Below w.heap.size w w') (by kernel_rfl) HB1.drew (fun hS1 => ?_)
          show wpAnyH _ _ _ _ _ 20 _ _ _
          refine wpAnyH_take (i := 0) (v := v7) rfl (by kernel_rfl) (by kernel_rfl) (by kernel_rfl) (fun _ _ _ h => h) (.inl ⟨rfl, fun _ _ => by simp [execOp, go_sem]⟩) hS1 ?_
          simp only [List.getElem_toArray, List.getElem_cons_succ, List.getElem_cons_zero, Act.put, List.setIfInBounds_toArray, List.set_cons_zero, List.set_cons_succ]
          refine wpAnyH_take (i := 1) (v := .slice (some ⟨g, off, none⟩) n cap) rfl (by kernel_rfl) (by kernel_rfl) (by kernel_rfl) (fun _ _ _ h => h) (.inl ⟨rfl, fun _ _ => by simp [execOp, go_sem]⟩) hS1 ?_
          simp only [List.getElem_toArray, List.getElem_cons_succ, List.getElem_cons_zero, Act.put, List.setIfInBounds_toArray, List.set_cons_zero, List.set_cons_succ]
          refine wpAnyH_take (i := 2) (v := .int .i64 (k : Int)) rfl (by kernel_rfl) (by kernel_rfl) (by kernel_rfl) (fun _ _ _ h => h) (.inl ⟨rfl, fun _ _ => by simp [execOp, go_sem]⟩) hS1 ?_
          simp only [List.getElem_toArray, List.getElem_cons_succ, List.getElem_cons_zero, Act.put, List.setIfInBounds_toArray, List.set_cons_zero, List.set_cons_succ]
          refine wpAnyH_take (i := 3) (v := .pointer (some ⟨g, off + k * 3, none⟩)) rfl (by kernel_rfl) (by kernel_rfl) (by kernel_rfl) (fun _ _ _ h => h) (yieldsIf_index rfl 30 (.tmp 80) (.tmp 81) rfl _ (fun w => by simp [Instr.indexAt, go_sem]; intro hh; omega)) hS1 ?_
          simp only [List.getElem_toArray, List.getElem_cons_succ, List.getElem_cons_zero, Act.put, List.setIfInBounds_toArray, List.set_cons_zero, List.set_cons_succ]
          refine wpAnyH_take (i := 4) (v := .pointer (some ⟨g, off + k * 3, none⟩)) rfl (by kernel_rfl) (by kernel_rfl) (by kernel_rfl) (fun _ _ _ h => h) (.inl ⟨rfl, fun _ _ => by simp [execOp, go_sem]⟩) hS1 ?_
          simp only [List.getElem_toArray, List.getElem_cons_succ, List.getElem_cons_zero, Act.put, List.setIfInBounds_toArray, List.set_cons_zero, List.set_cons_succ]
          refine wpAnyH_take (i := 5) (v := .int .u32 (pa : Int)) rfl (by kernel_rfl) (by kernel_rfl) (by kernel_rfl) (fun _ _ _ h => h) (.inl ⟨rfl, fun w' hw' => by have hcc := (HX.out w' hw').1; simp [execOp, go_sem, hcc]⟩) hS1 ?_
          simp only [List.getElem_toArray, List.getElem_cons_succ, List.getElem_cons_zero, Act.put, List.setIfInBounds_toArray, List.set_cons_zero, List.set_cons_succ]
          refine wpAnyH_take (i := 6) (v := .slice (some ⟨g, off, none⟩) n cap) rfl (by kernel_rfl) (by kernel_rfl) (by kernel_rfl) (fun _ _ _ h => h) (.inl ⟨rfl, fun _ _ => by simp [execOp, go_sem]⟩) hS1 ?_
          simp only [List.getElem_toArray, List.getElem_cons_succ, List.getElem_cons_zero, Act.put, List.setIfInBounds_toArray, List.set_cons_zero, List.set_cons_succ]
          refine wpAnyH_take (i := 7) (v := .int .i64 (k : Int)) rfl (by kernel_rfl) (by kernel_rfl) (by kernel_rfl) (fun _ _ _ h => h) (.inl ⟨rfl, fun _ _ => by simp [execOp, go_sem]⟩) hS1 ?_
          simp only [List.getElem_toArray, List.getElem_cons_succ, List.getElem_cons_zero, Act.put, List.setIfInBounds_toArray, List.set_cons_zero, List.set_cons_succ]
          refine wpAnyH_take (i := 8) (v := .pointer (some ⟨g, off + k * 3, none⟩)) rfl (by kernel_rfl) (by kernel_rfl) (by kernel_rfl) (fun _ _ _ h => h) (yieldsIf_index rfl 30 (.tmp 85) (.tmp 86) rfl _ (fun w => by simp [Instr.indexAt, go_sem]; intro hh; omega)) hS1 ?_
          simp only [List.getElem_toArray, List.getElem_cons_succ, List.getElem_cons_zero, Act.put, List.setIfInBounds_toArray, List.set_cons_zero, List.set_cons_succ]
          refine wpAnyH_take (i := 9) (v := .pointer (some ⟨g, off + k * 3 + 1, none⟩)) rfl (by kernel_rfl) (by kernel_rfl) (by kernel_rfl) (fun _ _ _ h => h) (.inl ⟨rfl, fun _ _ => by simp [execOp, go_sem]⟩) hS1 ?_
          simp only [List.getElem_toArray, List.getElem_cons_succ, List.getElem_cons_zero, Act.put, List.setIfInBounds_toArray, List.set_cons_zero, List.set_cons_succ]
          refine wpAnyH_take (i := 10) (v := .int .i64 pn) rfl (by kernel_rfl) (by kernel_rfl) (by kernel_rfl) (fun _ _ _ h => h) (.inl ⟨rfl, fun w' hw' => by have hcc := (HX.out w' hw').2.1; simp [execOp, go_sem, hcc]⟩) hS1 ?_
          simp only [List.getElem_toArray, List.getElem_cons_succ, List.getElem_cons_zero, Act.put, List.setIfInBounds_toArray, List.set_cons_zero, List.set_cons_succ]
          refine wpAnyH_take (i := 11) (v := .slice (some ⟨g, off, none⟩) n cap) rfl (by kernel_rfl) (by kernel_rfl) (by kernel_rfl) (fun _ _ _ h => h) (.inl ⟨rfl, fun _ _ => by simp [execOp, go_sem]⟩) hS1 ?_
          simp only [List.getElem_toArray, List.getElem_cons_succ, List.getElem_cons_zero, Act.put, List.setIfInBounds_toArray, List.set_cons_zero, List.set_cons_succ]
          refine wpAnyH_take (i := 12) (v := .int .i64 (k : Int)) rfl (by kernel_rfl) (by kernel_rfl) (by kernel_rfl) (fun _ _ _ h => h) (.inl ⟨rfl, fun _ _ => by simp [execOp, go_sem]⟩) hS1 ?_
          simp only [List.getElem_toArray, List.getElem_cons_succ, List.getElem_cons_zero, Act.put, List.setIfInBounds_toArray, List.set_cons_zero, List.set_cons_succ]
          refine wpAnyH_take (i := 13) (v := .pointer (some ⟨g, off + k * 3, none⟩)) rfl (by kernel_rfl) (by kernel_rfl) (by kernel_rfl) (fun _ _ _ h => h) (yieldsIf_index rfl 30 (.tmp 90) (.tmp 91) rfl _ (fun w => by simp [Instr.indexAt, go_sem]; intro hh; omega)) hS1 ?_
          simp only [List.getElem_toArray, List.getElem_cons_succ, List.getElem_cons_zero, Act.put, List.setIfInBounds_toArray, List.set_cons_zero, List.set_cons_succ]
          refine wpAnyH_take (i := 14) (v := .pointer (some ⟨g, off + k * 3 + 2, none⟩)) rfl (by kernel_rfl) (by kernel_rfl) (by kernel_rfl) (fun _ _ _ h => h) (.inl ⟨rfl, fun _ _ => by simp [execOp, go_sem]⟩) hS1 ?_
          simp only [List.getElem_toArray, List.getElem_cons_succ, List.getElem_cons_zero, Act.put, List.setIfInBounds_toArray, List.set_cons_zero, List.set_cons_succ]
          refine wpAnyH_take (i := 15) (v := .int .i64 pv) rfl (by kernel_rfl) (by kernel_rfl) (by kernel_rfl) (fun _ _ _ h => h) (.inl ⟨rfl, fun w' hw' => by have hcc := (HX.out w' hw').2.2; simp [execOp, go_sem, hcc]⟩) hS1 ?_
          simp only [List.getElem_toArray, List.getElem_cons_succ, List.getElem_cons_zero, Act.put, List.setIfInBounds_toArray, List.set_cons_zero, List.set_cons_succ]
          refine wpAnyH_take (i := 16) (v := .agg #[.int .i64 0, .bool false, .int .u32 (pa : Int), .int .i64 pn, .int .i64 pv]) rfl (by kernel_rfl) (by kernel_rfl) (by kernel_rfl) (fun _ _ _ h => h) (.inl ⟨rfl, fun _ _ => by simp [execOp, go_sem]⟩) hS1 ?_
          simp only [List.getElem_toArray, List.getElem_cons_succ, List.getElem_cons_zero, Act.put, List.setIfInBounds_toArray, List.set_cons_zero, List.set_cons_succ]
          have s2 : Below w.heap.size w (W1.drew.alloc (.cells #[.int .i64 0, .bool false, .int .u32 (pa : Int), .int .i64 pn, .int .i64 pv] 35)) := hS1.alloc hS1.size _
          have r7a : RowQ (W1.drew.alloc (.cells #[.int .i64 0, .bool false, .int .u32 (pa : Int), .int .i64 pn, .int .i64 pv] 35)) w.heap.size v7 (l.take k) := r7.drew.alloc _
          have r8a : RowQ (W1.drew.alloc (.cells #[.int .i64 0, .bool false, .int .u32 (pa : Int), .int .i64 pn, .int .i64 pv] 35)) w.heap.size v8 (l.reverse.take k) := r8.drew.alloc _
          have c1 := blk_alloc (w := W1.drew) c0 (.cells #[.int .i64 0, .bool false, .int .u32 (pa : Int), .int .i64 pn, .int .i64 pv] 35)
          have ro : SrcQ (W1.drew.alloc (.cells #[.int .i64 0, .bool false, .int .u32 (pa : Int), .int .i64 pn, .int .i64 pv] 35)) (.slice (some ⟨W1.drew.heap.size, 0, none⟩) 1 1) [⟨0, false, pa, pn, pv⟩] := (RowQ.one W1.drew 0 ⟨0, false, pa, pn, pv⟩ (Nat.zero_le _)).src
          have hBl2 : B < (W1.drew.alloc (.cells #[.int .i64 0, .bool false, .int .u32 (pa : Int), .int .i64 pn, .int .i64 pv] 35)).heap.size := by simp; omega
          refine wpAnyH_all (rs := [17]) (by kernel_rfl) (by simp) ?_
          intro i hi
          simp only [List.mem_cons, List.not_mem_nil, or_false] at hi
          subst hi
          refine wpOp_of_wp rfl rfl (fun K' hK' => ?_)
          go_wp2_with (fail)
          try refine ⟨s2, ?_⟩
          try simp only [List.getElem_toArray, List.getElem_cons_succ, List.getElem_cons_zero, Act.put, List.setIfInBounds_toArray, List.set_cons_zero, List.set_cons_succ]
          refine wpAnyH_all (rs := [18]) (by kernel_rfl) (by simp) ?_
          intro i hi
          simp only [List.mem_cons, List.not_mem_nil, or_false] at hi
          subst hi
          refine wpOp_of_wp rfl rfl (fun K' hK' => ?_)
          refine wp_appendSQ (.tmp 79) (.tmp 96) rfl w.heap.size v7 _ rfl r7a _ [⟨0, false, pa, pn, pv⟩] rfl ro s2.size (by have := HL7.out; simp only [List.length_cons, List.length_nil]; omega) ?_
          intro v5 w5 hr5 hg5 hat5
          have s5 : Below w.heap.size w w5 := s2.grown hg5 s2.size (fun q hq => (r7a.lt q hq).1)
          refine hK' _ _ ⟨s5, ?_⟩
          simp only [List.getElem_toArray, List.getElem_cons_succ, List.getElem_cons_zero, Act.put, List.setIfInBounds_toArray, List.set_cons_zero, List.set_cons_succ]
          refine wpAnyH_all (rs := [19]) (by kernel_rfl) (by simp) ?_
          intro i hi
          simp only [List.mem_cons, List.not_mem_nil, or_false] at hi
          subst hi
          refine wpOp_of_wp rfl rfl (fun K' hK' => ?_)
          go_wp2_with (fail)
          try refine ⟨s5, ?_⟩
          refine wpAnyH_done (by kernel_rfl) ?_ _
          try simp only [List.getElem_toArray, List.getElem_cons_succ, List.getElem_cons_zero, Act.put, List.setIfInBounds_toArray, List.set_cons_zero, List.set_cons_succ]
          have r8b : RowQ w5 w.heap.size v8 (l.reverse.take k) := r8a.kept hg5 (by
            cases hv8 : v8.ownBlock with
            | none => exact .inl rfl
            | some z => exact .inr fun e => HNE.out z e.symm hv8)
          have r7b : RowQ w5 w.heap.size v5 (l.take (k + 1)) := by rw [HT7.out]; exact hr5
          have hne5 : ∀ z, v5.ownBlock = some z → v8.ownBlock ≠ some z := fun z hz e => by
            rcases hat5 with h | h
            · exact HNE.out z (h ▸ hz) e
            · rw [h] at hz; injection hz with hz; subst hz; exact Nat.lt_irrefl _ (r8a.lt _ e).2
          have c5 : w5.heap[B]? = some (.cells #[.int .u32 (qa : Int), .int .i64 qn, .int .i64 qv] 45 (0, 0)) := by rw [grown_at hg5 hBl2 HB7.out]; exact c1
          have hB5 : B < w5.heap.size := (Array.getElem?_eq_some_iff.1 c5).1
          obtain ⟨b0, b1, b2⟩ := blk3 c5
          clear c0 c1 r7 r8 r7a r8a ro s2 hS1 HB1 hr5 hg5 hat5 HNE hBl hBl2
          have r7c : Hid (RowQ (w5.alloc (.cells #[.int .i64 0, .bool false, .int .u32 (qa : Int), .int .i64 qn, .int .i64 qv] 35)) w.heap.size v5 (l.take (k + 1))) := r7b.alloc _
          have r8c : Hid (RowQ (w5.alloc (.cells #[.int .i64 0, .bool false, .int .u32 (qa : Int), .int .i64 qn, .int .i64 qv] 35)) w.heap.size v8 (l.reverse.take k)) := r8b.alloc _
          have s6 : Hid (Below w.heap.size w (w5.alloc (.cells #[.int .i64 0, .bool false, .int .u32 (qa : Int), .int .i64 qn, .int .i64 qv] 35))) := s5.alloc s5.size _
          have ro : Hid (SrcQ (w5.alloc (.cells #[.int .i64 0, .bool false, .int .u32 (qa : Int), .int .i64 qn, .int .i64 qv] 35)) (.slice (some ⟨w5.heap.size, 0, none⟩) 1 1) [⟨0, false, qa, qn, qv⟩]) := (RowQ.one w5 0 ⟨0, false, qa, qn, qv⟩ (Nat.zero_le _)).src
          have Hl8 : Hid ((l.reverse.take k).length + [(⟨0, false, qa, qn, qv⟩ : Opx)].length ≤ 4294967296) := by show _ + 1 ≤ _; have := HL8.out; omega
          have Hne5 := hidMk hne5
          have S5 := hidMk s5
          clear r7b r8b hne5 s5 HT7 HL7 HL8 HB7 HB8 HX
          go_wp2_with (at_builtin; refine wpList_appendSQ rfl (.tmp 98) (.tmp 106) rfl w.heap.size v8 _ rfl r8c.out _ [⟨0, false, qa, qn, qv⟩] rfl ro.out s6.out.size Hl8.out ?_; intro v9 w9 hr9 hg9 hat9)
          have R9 : Hid (RowQ w9 w.heap.size v9 (l.reverse.take (k + 1))) := by rw [HT8.out]; exact hr9
          have R79 : Hid (RowQ w9 w.heap.size v5 (l.take (k + 1))) := r7c.out.kept hg9 (by
            cases hv5 : v5.ownBlock with
            | none => exact .inl rfl
            | some z => exact .inr fun e => Hne5.out z hv5 e.symm)
          have N9 : Hid (∀ z, v5.ownBlock = some z → v9.ownBlock ≠ some z) := fun z hz e => by
            rcases hat9 with h | h
            · exact Hne5.out z hz (h ▸ e)
            · rw [h] at e; injection e with e; have := (r7c.out.lt z hz).2; omega
          have B9 : Hid (Below w.heap.size w w9) := s6.out.grown hg9 s6.out.size (fun z hz => (r8c.out.lt z hz).1)
          clear hr9 hg9 hat9
          go_wp2_with (fail)
          go_roundw
          case rel => exact ⟨k + 1, _, _, by omega, rfl, rfl, by go_num, R79.out, R9.out, N9.out, B9.out⟩
          case measure => simp [intOf]; omega
        · obtain rfl : k = n := by omega
          have hni : ¬ (k : Int) < (k : Int) := by omega
          have R7 : Hid (RowQ wr w.heap.size v7 l) := by have h := HR7.out; rw [Hn.out, List.take_length] at h; exact h
          have R8 : Hid (RowQ wr w.heap.size v8 l.reverse) := by have h := HR8.out; rw [Hn.out, ← List.length_reverse, List.take_length] at h; exact h
          have HT : Hid (ply Wd 1048576 l.reverse = ply Wd 1048576 l) := ply_turn HW.out (fun o ho => by rw [(bd o ho).1]; decide) (ne2_pw l fun a b hab hb => HN.out a b hab (by rw [Hn.out]; exact hb)) (by have := Hn.out; omega)
          clear HR7 HR8 HNE HN
          go_wp2_with (fail)
          refine (Hp.out l _ v7 (fun o ho => (bd o ho).2.2.2.1) (by have := Hn.out; omega) (srcQ_O R7.out.src)).mono ?_
          rintro e W1 ⟨t, v, rfl, o1⟩
          have O1 := hidMk o1
          have R8b := hidMk (R8.out.on O1.out.be)
          clear o1 R7 R8
          go_wp2_with (fail)
          refine (Hp.out l.reverse _ v8 (fun o ho => (bd o (List.mem_reverse.1 ho)).2.2.2.1) (by have := Hn.out; rw [List.length_reverse]; omega) (srcQ_O R8b.out.src)).mono ?_
          rintro e W2 ⟨u, v2, rfl, o2⟩
          rw [HT.out] at o2
          have O2 := hidMk o2
          have O3 := hidMk (O1.out.on o2.be)
          have HB2 := hidMk (HB.out.trans (Below.mono O3.out.be HB.out.size))
          clear o2 O1 R8b HT Hp HB
          generalize (ply Wd 1048576 l).1 = L at *
          generalize (ply Wd 1048576 l).2 = ar at *
          go_wp2_with (fail)
          refine (awakeC _).mono ?_
          rintro e w9 ⟨rfl, hw9⟩
          have O4 := hidMk (O3.out.on hw9)
          have O5 := hidMk (O2.out.on hw9)
          have HB3 := hidMk (HB2.out.trans (Below.mono hw9 HB2.out.size))
          clear hw9 O3 O2 HB2
          go_wp2_with (fail)
          refine (walkC (some ⟨u, 0, none⟩) _).mono ?_
          rintro e w8 ⟨rfl, hw8⟩
          have hb8 : Below w9.heap.size w9 w8 := by rw [hw8]; exact bel_al1 _ _
          have K8 : Hid (w8.heap[w9.heap.size]? = some (.cells #[.pointer (some ⟨u, 0, none⟩)] 23 (0, 0))) := by rw [hw8]; exact blk_new _ _
          clear hw8
          have O6 := hidMk (O4.out.on hb8)
          have O7 := hidMk (O5.out.on hb8)
          have HB4 := hidMk (HB3.out.trans (Below.mono hb8 HB3.out.size))
          clear hb8 O4 O5 HB3
          obtain ⟨B, hB⟩ : ∃ B, B = w9.heap.size := ⟨_, rfl⟩
          rw [← hB] at K8 ⊢
          clear hB
          go_wp2_with (fail)
          refine (walkC (some ⟨t, 0, none⟩) _).mono ?_
          rintro e w7 ⟨rfl, hw7⟩
          obtain rfl := hw7.symm
          clear hw7
          go_wp2_with (fail)
          refine (told_walk O6.out).mono ?_
          rintro e W5 ⟨rr, rfl, k5, o5, hb5⟩
          have K5 := hidMk (blk_on K8.out hb5)
          have O8 := hidMk o5
          have O9 := hidMk (O7.out.on hb5)
          have HB5 := hidMk (HB4.out.trans (Below.mono hb5 HB4.out.size))
          have R5 := hidMk k5.1
          clear hb5 o5 k5 K8 O6 O7 HB4
          go_wp2_with (fail)
          refine (sameC _ _ _ L _ 1 _ (itr_walk u v2 Wd 1048576 L ar B (fun q => q < W5.heap.size) _ O9.out.tr O9.out.hw O9.out.hm K5.out (fun q hq => hq) O9.out.tr.lt (blk_lt K5.out) (fun q e => O9.out.tr.own e)) R5.out (by decide) (by decide)).mono ?_
          rintro e W6 ⟨rfl, hb6⟩
          have O10 := hidMk (O8.out.on hb6)
          have O11 := hidMk (O9.out.on hb6)
          have HB6 := hidMk (HB5.out.trans (Below.mono hb6 HB5.out.size))
          clear hb6 O8 O9 HB5 K5 R5
          go_wp2_with (fail)
          refine (nodesC _ _ _ _ _ _ _ O10.out.tr).mono ?_
          rintro e w4 ⟨rfl, hw4⟩
          obtain rfl := hw4.symm
          clear hw4
          go_wp2_with (fail)
          refine (nodesC _ _ _ _ _ _ _ O11.out.tr).mono ?_
          rintro e w4 ⟨rfl, hw4⟩
          obtain rfl := hw4.symm
          clear hw4
          go_wp2_with (fail)
          refine (arenaC _ _ _ _ _ _ _ O10.out.tr).mono ?_
          rintro e w4 ⟨rfl, hw4⟩
          obtain rfl := hw4.symm
          clear hw4
          go_wp2_with (fail)
          refine (arenaC _ _ _ _ _ _ _ O11.out.tr).mono ?_
          rintro e w4 ⟨rfl, hw4⟩
          obtain rfl := hw4.symm
          clear hw4
          go_wp2_with (fail)
          go_ret
          exact ⟨rfl, HB6.out⟩
end Go.Proofs.Ytfbkjghipahipaa
