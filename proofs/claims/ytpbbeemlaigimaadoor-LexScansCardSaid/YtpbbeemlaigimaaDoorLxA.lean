/-
  The document's All (quintetref09): a text's tokens up to what is wrong. Written by tools/mkLxA.py.
-/
import Derived.Test.YtpbbeemlaigimaaDoorLxL
import Derived.Test.YtpbbeemlaigimaaDoorBxY
import Derived.Deep.CutBlock
namespace Go.Proofs.YtpbbeemlaigimaaDoor
open Go.RowKit
set_option linter.unusedVariables false
set_option linter.unusedSimpArgs false

theorem range3 {w : World} {b : Nat} {v0 v1 v2 : Value} (h0 : w.cell? ⟨b, 0, none⟩ = some v0) (h1 : w.cell? ⟨b, 1, none⟩ = some v1) (h2 : w.cell? ⟨b, 2, none⟩ = some v2) : w.rangeAt b 0 [v0, v1, v2]
  | 0, _, e => by cases e; exact h0
  | 1, _, e => by cases e; exact h1
  | 2, _, e => by cases e; exact h2
  | _ + 3, _, e => by cases e
/-- A block made ahead of an append is not the row's. -/
theorem row_keep {w w5 : World} {b : Nat} {v : Value} {l : List Tk} {o : Obj} (h : RowT w b v l) (hg : (w.alloc o).grownBy w5 v.ownBlock) : w5.heap[w.heap.size]? = some o := by
  rw [hg.block w.heap.size (by simp) (fun e => by have := (h.lt _ e.symm).2; omega)]
  exact blk_new w o
def AllC : Prop := ∀ (s : ByteArray) (w : World), s.size ≤ 16777216 → Calls Tryd.prog 9 #[.string s] w fun e w' => ∃ v' : Value, e = .returned (.tuple #[v', .agg #[.int .i64 ((lexT s).2.e : Int), .int .i64 ((lexT s).2.l : Int), .int .i64 ((lexT s).2.c : Int)]]) ∧ RowT w' w.heap.size v' (lexT s).1 ∧ Below w.heap.size w w'
set_option maxRecDepth 20000 in
set_option maxHeartbeats 8000000 in
theorem rallL : AllC := by
  intro s w hs
  obtain ⟨n, hn⟩ : ∃ n, n = s.size := ⟨_, rfl⟩
  have HN : Hid (n = s.size) := hn
  have hlen : ∀ W, (Builtin.len_ #[9] 3 #[.string s]).run Tryd.prog W = .ok (.int .i64 (n : Int)) W := fun W => by rw [run_len_string W 9 3 s Tryd.underlying9, hn]; rfl
  by_cases hbig : 65536 < s.size
  · have hbig' : (65536 : Int) < (n : Int) := by omega
    have HF : Hid (lexT s = ([], ⟨2, 0, 0⟩)) := by show _ = _; unfold lexT; rw [if_pos hbig]
    rw [HF.out]
    have hZ := blk_new w (.cells #[.int .i64 0, .int .i64 0, .int .i64 0] 25)
    clear hn hbig
    go_enter Tryd.func9, Tryd.ntmps9
    go_wp2_with (refine wpList_store_blk rfl 25 (.tmp 3) (.tmp 14) rfl w.heap.size 0 #[.int .i64 2, .int .i64 0, .int .i64 0] #[.int .i64 2, .int .i64 0, .int .i64 0] rfl rfl 25 _ hZ (Nat.le_of_ble_eq_true rfl) rfl (by kernel_rfl) rfl ?_; intro w8 hw8 ho8)
    exact bodyPost_ret (results_blk3 Tryd.results9 rfl hw8 Tryd.underlying25 rfl (by kernel_rfl)) rfl ⟨_, rfl, RowT.nil _ _, ((Below.refl _ _).alloc (Nat.le_refl _) _).trans (ho8.below (Nat.le_refl _))⟩
  · have hbig' : ¬ (65536 : Int) < (n : Int) := by omega
    have HA : Hid (lexT s = allT s 1 0) := by show _ = _; unfold lexT; rw [if_neg hbig]
    have hnb : (n : Int) ≤ 65536 := by omega
    have HS : Hid (s.size ≤ 65536) := by show _ ≤ _; omega
    have HZ0 : Hid ((w.alloc (.cells #[.int .i64 0, .int .i64 0, .int .i64 0] 25)).heap[w.heap.size]? = some (.cells #[.int .i64 0, .int .i64 0, .int .i64 0] 25)) := blk_new w _
    have HB0 : Hid (Below w.heap.size w (w.alloc (.cells #[.int .i64 0, .int .i64 0, .int .i64 0] 25))) := (Below.refl _ _).alloc (Nat.le_refl _) _
    clear hn hbig hs
    go_enter Tryd.func9, Tryd.ntmps9
    go_upto_region 3 with (fail)
    generalize w.alloc (.cells #[.int .i64 0, .int .i64 0, .int .i64 0] 25) = W0 at *
    go_wp2_with (fail)
    go_loopw [4, 5, 6] (fun lv nv iv wr => ∃ (i no : Nat) (v : Value) (l : List Tk), i ≤ n + 1 ∧ no ≤ i ∧ iv = .int .i64 (i : Int) ∧ nv = .int .i64 (no : Int) ∧ lv = v ∧ Hid (RowT wr (w.heap.size + 1) v l) ∧ Hid (wr.heap[w.heap.size]? = some (.cells #[.int .i64 0, .int .i64 0, .int .i64 0] 25)) ∧ Hid (allT s 1 0 = (l ++ (allT s (no + 1) i).1, (allT s (no + 1) i).2)) ∧ Hid (l.length ≤ i) ∧ Hid (Below w.heap.size w wr)) (fun _ _ iv _ => n + 1 - (intOf iv).toNat)
    case atStart => exact ⟨0, 0, _, [], Nat.zero_le _, Nat.le_refl _, rfl, rfl, rfl, RowT.nil _ _, HZ0.out, by show _ = _; simp, Nat.le_refl _, HB0.out⟩
    case round =>
      obtain ⟨i, no, v, l, hi, hno, rfl, rfl, hv, HR, HZ, HL, HLen, HBw⟩ := hrel
      have hv' := hv.symm
      clear hv
      subst hv'
      have hl0 := blk_lt HZ.out
      have nz : ¬ w.heap.size = wr.heap.size := by omega
      by_cases hlt : i < n
      · have hlt' : (i : Int) < (n : Int) := by omega
        have HI : Hid (i < s.size) := by show _ < _; rw [← HN.out]; exact hlt
        obtain ⟨E, hE⟩ : ∃ E, E = endOf s i := ⟨_, rfl⟩
        have hge : i ≤ E := by rw [hE]; exact endOf_ge s i
        have hle : E ≤ n := by rw [hE, HN.out]; exact endOf_le (Nat.le_of_lt HI.out)
        obtain ⟨no1, hno1⟩ : ∃ no1, no1 = no + 1 := ⟨_, rfl⟩
        have eno : (no : Int) + 1 = (no1 : Int) := by omega
        have HNo : Hid (no1 = no + 1) := hno1
        have HE : Hid (E = endOf s i) := hE
        have hno6 : (no1 : Int) ≤ 70000 := by omega
        have HRun : Hid (∀ k, i ≤ k → k ≤ E → (k < n ∧ decide (bt s k ≠ 10) = true → k + 1 ≤ E) ∧ (¬ (k < n ∧ decide (bt s k ≠ 10) = true) → E = k)) := fun k h1 h2 => by
          rw [hE] at h2 ⊢
          rw [HN.out]
          exact run_step (p := fun k => decide (bt s k ≠ 10)) (e := s.size) h1 h2
        clear hE hno1
        go_upto_block 2 with (fail)
        go_cut [7] from 22 to 33 (fun ev wx => ev = .int .i64 (E : Int) ∧ Hid (wx = wr))
        case first =>
          clear eno
          go_wp2_with (fail)
          go_loopw [7] (fun ev wx => ∃ k : Nat, i ≤ k ∧ k ≤ E ∧ ev = .int .i64 (k : Int) ∧ wx = wr) (fun ev _ => n - (intOf ev).toNat)
          case atStart => exact ⟨i, Nat.le_refl _, hge, rfl, rfl⟩
          case round =>
            obtain ⟨k, hk1, hk2, rfl, hwx⟩ := hrel
            subst hwx
            obtain ⟨q1, q2⟩ := HRun.out k hk1 hk2
            have HQ1 : Hid (k < n ∧ decide (bt s k ≠ 10) = true → k + 1 ≤ E) := q1
            have HQ2 : Hid (¬ (k < n ∧ decide (bt s k ≠ 10) = true) → E = k) := q2
            clear q1 q2
            by_cases hkn : k < n
            · have hkn' : (k : Int) < (n : Int) := by omega
              have hix := idxS s k (by rw [← HN.out]; exact hkn)
              by_cases h10 : bt s k = 10
              · have HK : Hid (E = k) := HQ2.out (fun c => by simp [h10] at c)
                rw [h10] at hix
                clear h10 HQ1 HQ2
                go_wp2_with (fail)
                go_meet
                case rel => exact ⟨by rw [HK.out], rfl⟩
              · have HK : Hid (k + 1 ≤ E) := HQ1.out ⟨hkn, by simpa using h10⟩
                have h10' : ¬ ((bt s k : Nat) : Int) = 10 := by omega
                generalize bt s k = c at *
                clear h10 HQ1 HQ2
                go_wp2_with (fail)
                go_roundw
                case rel => exact ⟨k + 1, by omega, HK.out, by go_num, trivial⟩
                case measure => simp [intOf]; omega
            · have hkn' : ¬ (k : Int) < (n : Int) := by omega
              have HK : Hid (E = k) := HQ2.out (fun c => hkn c.1)
              clear HQ1 HQ2
              go_wp2_with (fail)
              go_meet
              case rel => exact ⟨by rw [HK.out], rfl⟩
        case rest =>
          obtain ⟨rfl, hcw⟩ := hcut
          obtain rfl := hcw.out
          clear hcw HRun
          have hsl := slS s i E hge (by rw [← HN.out]; exact hle)
          have hsz := ex_size s i E hge (by rw [← HN.out]; exact hle)
          have hC := fun W => rline (s.extract i E) no1 W (by rw [hsz]; omega) (by omega) (by omega)
          have hok := lineA_ok (s.extract i E) no1 (by omega)
          have HLA : Hid (lineA (s.extract i (endOf s i)) (no + 1) = lineA (s.extract i E) no1) := by show _ = _; rw [← HE.out, ← HNo.out]
          obtain ⟨lt, hltk⟩ : ∃ lt, lt = (lineA (s.extract i E) no1).1 := ⟨_, rfl⟩
          obtain ⟨er, her⟩ : ∃ er, er = (lineA (s.extract i E) no1).2 := ⟨_, rfl⟩
          have hll : lt.length ≤ E - i := by rw [hltk, ← hsz]; exact hok.2.1
          rw [← hltk, ← her] at hC
          have HLT : Hid ((lineA (s.extract i (endOf s i)) (no + 1)).1 = lt) := by show _ = _; rw [HLA.out, hltk]
          have HER : Hid ((lineA (s.extract i (endOf s i)) (no + 1)).2 = er) := by show _ = _; rw [HLA.out, her]
          have HLen2 : Hid ((l ++ lt).length ≤ E) := by show _ ≤ _; have := HLen.out; rw [List.length_append]; omega
          generalize s.extract i E = tx0 at *
          clear hok hltk her hll HLA hsz
          go_wp2_with (fail)
          refine (hC _).mono ?_
          rintro e w2 ⟨vl, rfl, hrowl, hb2⟩
          have HR2 : Hid (RowT w2 (w.heap.size + 1) v l) := HR.out.on hb2
          have HRl : Hid (RowT w2 (w.heap.size + 1) vl lt) := hrowl.base (by omega)
          have HZ2 : Hid (w2.heap[w.heap.size]? = some (.cells #[.int .i64 0, .int .i64 0, .int .i64 0] 25)) := blk_on HZ.out hb2
          have hz2 := hb2.size
          have HB2 : Hid (Below w.heap.size w w2) := HBw.out.trans (hb2.mono (by omega))
          have nz2 : ¬ w.heap.size = w2.heap.size := by omega
          clear hrowl hb2 hC
          go_upto_region 13 with (at_builtin; refine wpList_appendT rfl (.tmp 43) (.tmp 44) rfl (w.heap.size + 1) _ l rfl (HR2.out.alloc _) (w.heap.size + 1) _ lt rfl (HRl.out.alloc _) (by simp; omega) (by have := HLen2.out; rw [List.length_append] at this; omega) ?_; intro v5 w5 hrow5 hgr5; have HRR : Hid (RowT w5 (w.heap.size + 1) v5 (l ++ lt)) := hrow5; have hG5 : Below (w.heap.size + 1) w2 w5 := bel_grownT ((Below.refl (w.heap.size + 1) w2).alloc (by omega) _) (HR2.out.alloc _) hgr5 (by simp; omega) (Nat.le_refl _); have hK5 : w5.heap[w2.heap.size]? = some (.cells #[.int .i64 (er.e : Int), .int .i64 (er.l : Int), .int .i64 (er.c : Int)] 25) := row_keep (HR2.out) hgr5; have HK5 : Hid (w5.heap[w2.heap.size]? = some (.cells #[.int .i64 (er.e : Int), .int .i64 (er.l : Int), .int .i64 (er.c : Int)] 25)) := hK5; have HZ5 : Hid (w5.heap[w.heap.size]? = some (.cells #[.int .i64 0, .int .i64 0, .int .i64 0] 25)) := (hG5.block w.heap.size (Nat.lt_succ_self _)).trans HZ2.out; have HB5 : Hid (Below w.heap.size w w5) := HB2.out.trans (hG5.mono (Nat.le_succ _)); have hz5 := blk_lt hK5; obtain ⟨k0, k1, k2⟩ : w5.cell? ⟨w2.heap.size, 0, none⟩ = some (.int .i64 (er.e : Int)) ∧ w5.cell? ⟨w2.heap.size, 1, none⟩ = some (.int .i64 (er.l : Int)) ∧ w5.cell? ⟨w2.heap.size, 2, none⟩ = some (.int .i64 (er.c : Int)) := ⟨blk_cell hK5 rfl, blk_cell hK5 rfl, blk_cell hK5 rfl⟩; clear hrow5 hgr5 hG5 hK5)
          by_cases he0 : er.e = 0
          · have HOK : Hid ((lineA (s.extract i (endOf s i)) (no + 1)).2.e = 0) := by show _ = _; rw [HER.out]; exact he0
            have he0' : (er.e : Int) = 0 := by omega
            obtain ⟨E1, hE1⟩ : ∃ E1, E1 = E + 1 := ⟨_, rfl⟩
            have eE1 : (E : Int) + 1 = (E1 : Int) := by omega
            obtain ⟨col, hcol⟩ : ∃ col, col = E - i + 1 := ⟨_, rfl⟩
            have ecol : (E : Int) - (i : Int) + 1 = (col : Int) := by omega
            have HEE : Hid (E1 = endOf s i + 1 ∧ i < E1 ∧ E1 ≤ n + 1 ∧ E + 1 = E1) := ⟨by rw [← HE.out]; exact hE1, by omega, by omega, by omega⟩
            have HCol : Hid (endOf s i - i + 1 = col) := by show _ = _; rw [← HE.out]; omega
            have hEi : (i : Int) ≤ (E : Int) := by omega
            have hE6 : (E : Int) ≤ 65536 := by omega
            have hl5 : w.heap.size + 1 ≤ w5.heap.size := by omega
            clear he0 hE1 hcol k1 k2
            by_cases hEn : E < n
            · have hEn' : (E : Int) < (n : Int) := by omega
              have hsl2 := slS s E E1 (by have := HEE.out; omega) (by have := HEE.out; rw [← HN.out]; omega)
              obtain ⟨tx, htx⟩ : ∃ tx, tx = s.extract E E1 := ⟨_, rfl⟩
              rw [← htx] at hsl2
              have HTok : Hid (endT s (no + 1) i = ⟨4, tx, 0, no1, col⟩) := by
                show _ = _
                unfold endT
                rw [HCol.out, ← HE.out, if_pos (by rw [← HN.out]; exact hEn), htx, ← HNo.out, HEE.out.2.2.2]
              clear htx hsl
              go_wp2_with ((at_builtin; refine wpList_appendT rfl (.tmp 67) (.tmp 69) rfl (w.heap.size + 1) _ (l ++ lt) rfl ((HRR.out.alloc _).alloc _) (w.heap.size + 1) _ [⟨4, tx, 0, no1, col⟩] rfl (RowT.one2 (w5.alloc _) (w.heap.size + 1) 4 0 no1 col tx (by simp) rfl rfl rfl rfl (by simp; omega)) (by simp; omega) (by have := HLen2.out; simp only [List.length_append, List.length_cons, List.length_nil] at this ⊢; omega) ?_; intro v7 w7 hrow7 hgr7))
              go_roundw
              case rel =>
                have hG : Below (w.heap.size + 1) w5 w7 := bel_grownT ((Below.refl (w.heap.size + 1) w5).alloc (by omega) _ |>.alloc (by simp; omega) _) ((HRR.out.alloc _).alloc _) hgr7 (by simp; omega) (Nat.le_refl _)
                refine ⟨E1, no1, v7, l ++ lt ++ [(⟨4, tx, 0, no1, col⟩ : Tk)], by have := HEE.out; omega, by have := HEE.out; have := HNo.out; omega, rfl, rfl, rfl, hrow7, ?_, ?_, ?_, ?_⟩
                · show w7.heap[w.heap.size]? = _
                  rw [hG.block w.heap.size (Nat.lt_succ_self _)]; exact HZ5.out
                · show _ = _
                  rw [HL.out, allT_line HI.out HOK.out, HLT.out, HTok.out, show no + 1 + 1 = no1 + 1 by have := HNo.out; omega, show endOf s i + 1 = E1 by have := HEE.out; omega]
                  simp
                · show _ ≤ _
                  have hy := HLen2.out; have hz := HEE.out
                  simp only [List.length_append, List.length_cons, List.length_nil] at hy ⊢; omega
                · exact HB5.out.trans (hG.mono (Nat.le_succ _))
              case measure => have := HEE.out; simp [intOf]; omega
            · have hEn' : ¬ (E : Int) < (n : Int) := by omega
              have HTok : Hid (endT s (no + 1) i = ⟨4, ⟨#[]⟩, 0, no1, col⟩) := by
                show _ = _
                unfold endT
                rw [HCol.out, ← HE.out, if_neg (by rw [← HN.out]; exact hEn), ← HNo.out]
                rfl
              clear hsl
              go_wp2_with ((at_builtin; refine wpList_appendT rfl (.tmp 67) (.tmp 69) rfl (w.heap.size + 1) _ (l ++ lt) rfl ((HRR.out.alloc _).alloc _) (w.heap.size + 1) _ [⟨4, (⟨#[]⟩ : ByteArray), 0, no1, col⟩] rfl (RowT.one2 (w5.alloc _) (w.heap.size + 1) 4 0 no1 col (⟨#[]⟩ : ByteArray) (by simp) rfl rfl rfl rfl (by simp; omega)) (by simp; omega) (by have := HLen2.out; simp only [List.length_append, List.length_cons, List.length_nil] at this ⊢; omega) ?_; intro v7 w7 hrow7 hgr7))
              go_roundw
              case rel =>
                have hG : Below (w.heap.size + 1) w5 w7 := bel_grownT ((Below.refl (w.heap.size + 1) w5).alloc (by omega) _ |>.alloc (by simp; omega) _) ((HRR.out.alloc _).alloc _) hgr7 (by simp; omega) (Nat.le_refl _)
                refine ⟨E1, no1, v7, l ++ lt ++ [(⟨4, (⟨#[]⟩ : ByteArray), 0, no1, col⟩ : Tk)], by have := HEE.out; omega, by have := HEE.out; have := HNo.out; omega, rfl, rfl, rfl, hrow7, ?_, ?_, ?_, ?_⟩
                · show w7.heap[w.heap.size]? = _
                  rw [hG.block w.heap.size (Nat.lt_succ_self _)]; exact HZ5.out
                · show _ = _
                  rw [HL.out, allT_line HI.out HOK.out, HLT.out, HTok.out, show no + 1 + 1 = no1 + 1 by have := HNo.out; omega, show endOf s i + 1 = E1 by have := HEE.out; omega]
                  simp
                · show _ ≤ _
                  have hy := HLen2.out; have hz := HEE.out
                  simp only [List.length_append, List.length_cons, List.length_nil] at hy ⊢; omega
                · exact HB5.out.trans (hG.mono (Nat.le_succ _))
              case measure => have := HEE.out; simp [intOf]; omega
          · have he0' : ¬ (er.e : Int) = 0 := by omega
            have HF : Hid (lexT s = (l ++ lt, er)) := by show _ = _; rw [HA.out, HL.out, allT_bad HI.out (by rw [HER.out]; exact he0), ← HLT.out, ← HER.out]
            go_upto_region 14 with (fail)
            refine wp_region_held_drew (S := fun w' => w'.heap[w2.heap.size]? = some (.cells #[.int .i64 (er.e : Int), .int .i64 (er.l : Int), .int .i64 (er.c : Int)] 25)) (by kernel_rfl) (by exact HK5.out) (fun hS0 => ?_)
            show wpAnyH _ _ _ _ _ 4 _ _ _
            refine wpAnyH_take (i := 0) rfl (by kernel_rfl) (by kernel_rfl) (by kernel_rfl) (fun _ _ _ h => h) (.inl ⟨rfl, fun _ _ => rfl⟩) hS0 ?_
            simp only [List.getElem_toArray, List.getElem_cons_succ, List.getElem_cons_zero, Act.put, List.setIfInBounds_toArray, List.set_cons_zero, List.set_cons_succ]
            refine wpAnyH_take (i := 1) rfl (by kernel_rfl) (by kernel_rfl) (by kernel_rfl) (fun _ _ _ h => h) (yieldsIf_load_mid rfl 25 (.tmp 9) rfl w2.heap.size 0 rfl [.int .i64 (er.e : Int), .int .i64 (er.l : Int), .int .i64 (er.c : Int)] _ (fun w' hw' => range3 (blk_cell hw' rfl) (blk_cell hw' rfl) (blk_cell hw' rfl)) Tryd.underlying25 rfl (by kernel_rfl)) hS0 ?_
            simp only [List.getElem_toArray, List.getElem_cons_succ, List.getElem_cons_zero, Act.put, List.setIfInBounds_toArray, List.set_cons_zero, List.set_cons_succ]
            refine wpAnyH_take (i := 2) rfl (by kernel_rfl) (by kernel_rfl) (by kernel_rfl) (fun _ _ _ h => h) (.inl ⟨rfl, fun _ _ => rfl⟩) hS0 ?_
            simp only [List.getElem_toArray, List.getElem_cons_succ, List.getElem_cons_zero, Act.put, List.setIfInBounds_toArray, List.set_cons_zero, List.set_cons_succ]
            refine wpAnyH_all (rs := [3]) (by kernel_rfl) (by simp) ?_
            intro i' hi'
            simp only [List.mem_cons, List.not_mem_nil, or_false] at hi'
            subst hi'
            refine wpOp_of_wp rfl rfl (fun K' hK' => ?_)
            refine wp_store_blk 25 (.tmp 3) (.tmp 50) rfl w.heap.size 0 #[.int .i64 (er.e : Int), .int .i64 (er.l : Int), .int .i64 (er.c : Int)] #[.int .i64 (er.e : Int), .int .i64 (er.l : Int), .int .i64 (er.c : Int)] rfl rfl 25 _ (by exact HZ5.out) (Nat.le_of_ble_eq_true rfl) rfl (by kernel_rfl) rfl (fun w8 hw8 ho8 => hK' _ _ ⟨?_, ?_⟩)
            · exact (ho8.block w2.heap.size (by omega)).trans hS0
            · refine wpAnyH_done (by kernel_rfl) ?_ _
              simp only [List.getElem_toArray, List.getElem_cons_succ, List.getElem_cons_zero, Act.put, List.setIfInBounds_toArray, List.set_cons_zero, List.set_cons_succ]
              go_wp2_with (fail)
              exact bodyPost_ret (results_blk3 Tryd.results9 rfl hw8 Tryd.underlying25 rfl (by kernel_rfl)) rfl ⟨v5, by rw [HF.out]; rfl, by rw [HF.out]; exact (HRR.out.drew.only ho8 (Nat.lt_succ_self _)).base (Nat.le_succ _), by exact (Below.drew HB5.out).trans (ho8.below (Nat.le_refl _))⟩
      · have hlt' : ¬ (i : Int) < (n : Int) := by omega
        have HF : Hid (lexT s = (l, ⟨0, 0, 0⟩)) := by show _ = _; rw [HA.out, HL.out, allT_end (by rw [← HN.out]; omega)]; simp
        go_wp2_with (refine wpList_store_blk rfl 25 (.tmp 3) (.tmp 74) rfl w.heap.size 0 #[.int .i64 0, .int .i64 0, .int .i64 0] #[.int .i64 0, .int .i64 0, .int .i64 0] rfl rfl 25 _ HZ.out (Nat.le_of_ble_eq_true rfl) rfl (by kernel_rfl) rfl ?_; intro w8 hw8 ho8)
        exact bodyPost_ret (results_blk3 Tryd.results9 rfl hw8 Tryd.underlying25 rfl (by kernel_rfl)) rfl ⟨v, by rw [HF.out]; rfl, by rw [HF.out]; exact (HR.out.only ho8 (Nat.lt_succ_self _)).base (Nat.le_succ _), by exact HBw.out.trans (ho8.below (Nat.le_refl _))⟩
end Go.Proofs.YtpbbeemlaigimaaDoor
