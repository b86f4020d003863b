/-
  The document's line (quintetref09): a line's tokens up to what is wrong. Written by tools/mkLxL.py.
-/
import Derived.Test.YtehedlgdencboaaGreatDoorLxR
import Derived.Test.YtehedlgdencboaaGreatDoorBxW
import Derived.Deep.AppendLies
namespace Go.Proofs.YtehedlgdencboaaGreatDoor
open Go.RowKit
set_option linter.unusedVariables false
set_option linter.unusedSimpArgs false

theorem results_blk3 {P : Program} {fn : Func} {tmps : Array Value} {w : World} {t u : Tmp} {ty T : TypeId} {d : TypeDesc} {B : Nat} {cs : Array Value} {fr : Nat × Nat} (h : fn.results = #[.tmp u, .cell t ty]) (hp : tmps.getD t undef = .pointer (some ⟨B, 0, none⟩))
    (hb : w.heap[B]? = some (.cells cs T fr)) (hu : P.underlying ty = some d) (hd : d.isRow = true) (hi : (P.info? ty).map (·.size) = some cs.size) : (results fn tmps).run P w = .ok (.tuple #[tmps.getD u undef, .agg cs]) w := by
  have hl := run_loadVar_mid (P := P) w B 0 ty cs.toList d (by have := World.rangeAt_of_block hb 0 cs.size; simpa using this) hu hd (by simpa using hi)
  have hp2 : tmps[t]?.getD undef = .pointer (some ⟨B, 0, none⟩) := by simpa using hp
  simp [results, h, hp2, asAddr, hl]
theorem RowT.only {w w' : World} {b B : Nat} {v : Value} {l : List Tk} (h : RowT w b v l) (ho : Only B w w') (hB : B < b) : RowT w' b v l := by
  refine ⟨h.1, ?_⟩
  rcases h.2 with h2 | ⟨g, cap, cur, hv, hg, hh, r⟩
  · exact .inl h2
  · exact .inr ⟨g, cap, cur, hv, hg, by rw [ho.block g (by omega)]; exact hh, r⟩
theorem RowT.one2 (w : World) (b : Nat) (k v l c : Nat) (t : ByteArray) {B : Nat} {K V L C : Int} (hB : B = w.heap.size) (hk : K = (k : Int)) (hv : V = (v : Int)) (hl : L = (l : Int)) (hc : C = (c : Int)) (hb : b ≤ w.heap.size) : RowT (w.alloc (.cells #[.int .i64 K, .string t, .int .u32 V, .int .i64 L, .int .i64 C] 109)) b (.slice (some ⟨B, 0, none⟩) 1 1) [⟨k, t, v, l, c⟩] := by
  subst hB hk hv hl hc; exact RowT.one w b ⟨k, t, v, l, c⟩ hb
theorem bel_al {n : Nat} {w wr : World} (h : Below n w wr) (o : Obj) : n ≤ w.heap.size → Below n w (wr.alloc o) := fun hn => h.alloc (Nat.le_trans hn h.size) o
theorem slS (s : ByteArray) (i j : Nat) (h1 : i ≤ j) (h2 : j ≤ s.size) (w : World) : (Instr.slice 9 (.string s) (some (.int .i64 (i : Int))) (some (.int .i64 (j : Int))) none).run Tryz.prog w = .ok (.string (s.extract i j)) w := by
  have := run_slice_string (P := Tryz.prog) w 9 s .i64 .i64 (i : Int) (j : Int) Tryz.underlying9 (by omega) (by omega) (by omega)
  simpa using this
theorem numF_ex (s : ByteArray) (i E : Nat) : ∀ k, i + k ≤ E → E ≤ s.size → numF (s.extract i E) 0 k = numF s i k
  | 0, _, _ => rfl
  | k + 1, h1, h2 => by
    show 10 * numF (s.extract i E) 0 k + (bt (s.extract i E) (0 + k) - 48) = 10 * numF s i k + (bt s (i + k) - 48)
    rw [numF_ex s i E k (by omega) h2, Nat.zero_add, bt_ex s i E k (by omega) h2]
theorem numOk_ex (s : ByteArray) (i E : Nat) (h : i < E) (h2 : E ≤ s.size) : numOk (s.extract i E) 0 (s.extract i E).size = numOk s i E := by
  unfold numOk
  rw [ex_size s i E (Nat.le_of_lt h) h2, Nat.sub_zero, numF_ex s i E (E - i) (by omega) h2, bt_ex s i E 0 (by omega) h2, Nat.add_zero]
def LineC : Prop := ∀ (s : ByteArray) (no : Nat) (w : World), s.size ≤ 65536 → 1 ≤ no → no ≤ 70000 → Calls Tryz.prog 59 #[.string s, .int .i64 (no : Int)] w fun e w' => ∃ v' : Value, e = .returned (.tuple #[v', .agg #[.int .i64 ((lineA s no).2.e : Int), .int .i64 ((lineA s no).2.l : Int), .int .i64 ((lineA s no).2.c : Int)]]) ∧ RowT w' w.heap.size v' (lineA s no).1 ∧ Below w.heap.size w w'
set_option maxRecDepth 20000 in
set_option maxHeartbeats 8000000 in
theorem rline : LineC := by
  intro s no w hs hno1 hno2
  obtain ⟨n, hn⟩ : ∃ n, n = s.size := ⟨_, rfl⟩
  have HN : Hid (n = s.size) := hn
  have hlen : ∀ W, (Builtin.len_ #[9] 3 #[.string s]).run Tryz.prog W = .ok (.int .i64 (n : Int)) W := fun W => by rw [run_len_string W 9 3 s Tryz.underlying9, hn]; rfl
  by_cases hbig : 200 < s.size
  · have hbig' : (200 : Int) < (n : Int) := by omega
    have HF : Hid (lineA s no = ([], ⟨93, no, 1⟩)) := by show _ = _; unfold lineA; rw [if_pos hbig]
    rw [HF.out]
    have hZ := blk_new w (.cells #[.int .i64 0, .int .i64 0, .int .i64 0] 26)
    clear hn hbig
    go_enter Tryz.func59, Tryz.ntmps59
    go_wp2_with (refine wpList_store_blk rfl 26 (.tmp 5) (.tmp 17) rfl w.heap.size 0 #[.int .i64 93, .int .i64 (no : Int), .int .i64 1] #[.int .i64 93, .int .i64 (no : Int), .int .i64 1] rfl rfl 26 _ hZ (Nat.le_of_ble_eq_true rfl) rfl (by kernel_rfl) rfl ?_; intro w8 hw8 ho8)
    exact bodyPost_ret (results_blk3 Tryz.results59 rfl hw8 Tryz.underlying26 rfl (by kernel_rfl)) rfl ⟨_, rfl, RowT.nil _ _, ((Below.refl _ _).alloc (Nat.le_refl _) _).trans (ho8.below (Nat.le_refl _))⟩
  · have hbig' : ¬ (200 : Int) < (n : Int) := by omega
    have HA : Hid (lineA s no = lineT s no 0) := by show _ = _; unfold lineA; rw [if_neg hbig]
    have hn200 : (n : Int) ≤ 200 := by omega
    have HS : Hid (s.size ≤ 200) := by show _ ≤ _; omega
    have hZ0 := blk_new w (.cells #[.int .i64 0, .int .i64 0, .int .i64 0] 26)
    have HZ0 : Hid ((w.alloc (.cells #[.int .i64 0, .int .i64 0, .int .i64 0] 26)).heap[w.heap.size]? = some (.cells #[.int .i64 0, .int .i64 0, .int .i64 0] 26)) := hZ0
    have HB0 : Hid (Below w.heap.size w (w.alloc (.cells #[.int .i64 0, .int .i64 0, .int .i64 0] 26))) := (Below.refl _ _).alloc (Nat.le_refl _) _
    have hsz0 : (w.alloc (.cells #[.int .i64 0, .int .i64 0, .int .i64 0] 26)).heap.size = w.heap.size + 1 := by simp
    have HSZ0 : Hid ((w.alloc (.cells #[.int .i64 0, .int .i64 0, .int .i64 0] 26)).heap.size = w.heap.size + 1) := hsz0
    clear hn hbig hs hZ0 hsz0
    go_enter Tryz.func59, Tryz.ntmps59
    go_upto_region 3 with (fail)
    generalize w.alloc (.cells #[.int .i64 0, .int .i64 0, .int .i64 0] 26) = W0 at *
    go_wp2_with (fail)
    go_loopw [6, 7] (fun lv iv wr => ∃ (i : Nat) (v : Value) (l : List Tk), i ≤ n ∧ iv = .int .i64 (i : Int) ∧ lv = v ∧ Hid (RowT wr (w.heap.size + 1) v l) ∧ Hid (wr.heap[w.heap.size]? = some (.cells #[.int .i64 0, .int .i64 0, .int .i64 0] 26)) ∧ Hid (lineT s no 0 = (l ++ (lineT s no i).1, (lineT s no i).2)) ∧ Hid (l.length ≤ i) ∧ Hid (Below w.heap.size w wr)) (fun _ iv _ => n - (intOf iv).toNat)
    case atStart => exact ⟨0, _, [], Nat.zero_le _, rfl, rfl, RowT.nil _ _, HZ0.out, by show _ = _; simp, Nat.le_refl _, HB0.out⟩
    case round =>
      obtain ⟨i, v, l, hi, rfl, hv, HR, HZ, HL, HLen, HBw⟩ := hrel
      have hv' := hv.symm
      clear hv
      subst hv'
      have hl0 := blk_lt HZ.out
      have nz : ¬ w.heap.size = wr.heap.size := by omega
      by_cases hlt : i < n
      · have hlt' : (i : Int) < (n : Int) := by omega
        have hlt0 : Hid (i < s.size) := by show _ < _; rw [← HN.out]; exact hlt
        have hix := idxS s i hlt0.out
        by_cases h35e : bt s i = 35
        · have HF : Hid (lineA s no = (l, ⟨0, 0, 0⟩)) := by show _ = _; rw [HA.out, HL.out, lineT_end (fun c => c.2 h35e)]; simp
          rw [h35e] at hix
          clear h35e
          go_wp2_with (refine wpList_store_blk rfl 26 (.tmp 5) (.tmp 104) rfl w.heap.size 0 #[.int .i64 0, .int .i64 0, .int .i64 0] #[.int .i64 0, .int .i64 0, .int .i64 0] rfl rfl 26 _ HZ.out (Nat.le_of_ble_eq_true rfl) rfl (by kernel_rfl) rfl ?_; intro w8 hw8 ho8)
          exact bodyPost_ret (results_blk3 Tryz.results59 rfl hw8 Tryz.underlying26 rfl (by kernel_rfl)) rfl ⟨v, by rw [HF.out]; rfl, by rw [HF.out]; exact (HR.out.only ho8 (Nat.lt_succ_self _)).base (Nat.le_succ _), by exact HBw.out.trans (ho8.below (Nat.le_refl _))⟩
        · have h35 : Hid (bt s i ≠ 35) := h35e
          have h35' : ¬ ((bt s i : Nat) : Int) = 35 := by omega
          obtain ⟨col, hcol⟩ : ∃ col : Nat, col = i + 1 := ⟨_, rfl⟩
          have HC : Hid (i + 1 = col) := hcol.symm
          have ec : (i : Int) + 1 = (col : Int) := by omega
          have hb1 := rblank (bt s i)
          have hb2 := rletter (bt s i)
          have hb3 := rdigit (bt s i)
          have hb4 := rsign (bt s i)
          have hls := fun W => rletters s i W (Nat.le_of_lt hlt0.out) (by have := HS.out; omega)
          have hds := fun W => rdigits s i W (Nat.le_of_lt hlt0.out) (by have := HS.out; omega)
          have hi200 : (i : Int) ≤ 200 := by omega
          clear h35e hcol
          cases q1 : blankB (bt s i)
          · cases q2 : letterB (bt s i)
            · cases q3 : digitB (bt s i)
              · cases q4 : signB (bt s i)
                · have HSt : Hid (stepS s i = ⟨0, i + 1, 0, 90⟩) := by show _ = _; unfold stepS; rw [q1, q2, q3, q4]; rfl
                  rw [q1] at hb1; rw [q2] at hb2; rw [q3] at hb3; rw [q4] at hb4
                  clear q1 q2 q3 q4
                  generalize bt s i = c at hix hb1 hb2 hb3 hb4 h35'
                  have HF : Hid (lineA s no = (l, ⟨90, no, col⟩)) := by show _ = _; rw [HA.out, HL.out, lineT_bad hlt0.out h35.out (by rw [HSt.out]; simp), HSt.out, HC.out]; simp
                  go_wp2_with (first | (go_at_call 98; refine (hb1 _).mono ?_; rintro e w' ⟨rfl, hw⟩; obtain rfl := hw.symm; clear hw) | (go_at_call 99; refine (hb2 _).mono ?_; rintro e w' ⟨rfl, hw⟩; obtain rfl := hw.symm; clear hw) | (go_at_call 101; refine (hb3 _).mono ?_; rintro e w' ⟨rfl, hw⟩; obtain rfl := hw.symm; clear hw) | (go_at_call 104; refine (hb4 _).mono ?_; rintro e w' ⟨rfl, hw⟩; obtain rfl := hw.symm; clear hw) | (refine wpList_store_blk rfl 26 (.tmp 5) (.tmp 39) rfl w.heap.size 0 #[.int .i64 90, .int .i64 (no : Int), .int .i64 (col : Int)] #[.int .i64 90, .int .i64 (no : Int), .int .i64 (col : Int)] rfl rfl 26 _ (blk_alloc HZ.out _) (Nat.le_of_ble_eq_true rfl) rfl (by kernel_rfl) rfl ?_; intro w8 hw8 ho8))
                  exact bodyPost_ret (results_blk3 Tryz.results59 rfl hw8 Tryz.underlying26 rfl (by kernel_rfl)) rfl ⟨v, by rw [HF.out]; rfl, by rw [HF.out]; exact ((HR.out.alloc _).only ho8 (Nat.lt_succ_self _)).base (Nat.le_succ _), by exact (bel_al HBw.out _ (Nat.le_refl _)).trans (ho8.below (Nat.le_refl _))⟩
                · have HSt : Hid (stepS s i = ⟨3, i + 1, 0, 0⟩) := by show _ = _; unfold stepS; rw [q1, q2, q3, q4]; rfl
                  rw [q1] at hb1; rw [q2] at hb2; rw [q3] at hb3; rw [q4] at hb4
                  have HJ : Hid (i < col ∧ col ≤ n) := ⟨by have := HC.out; omega, by have := HC.out; omega⟩
                  rw [HC.out] at HSt
                  obtain ⟨tx, htx⟩ : ∃ tx, tx = s.extract i col := ⟨_, rfl⟩
                  have HTx : Hid (tx = s.extract i col) := htx
                  have hsl := slS s i col (by have := HC.out; omega) (by rw [← HN.out]; have := HC.out; omega)
                  rw [← htx] at hsl
                  have hc200 : (col : Int) ≤ 201 := by omega
                  clear htx q1 q2 q3 q4
                  generalize bt s i = c at hix hb1 hb2 hb3 hb4 h35'
                  go_wp2_with (first | (go_at_call 98; refine (hb1 _).mono ?_; rintro e w' ⟨rfl, hw⟩; obtain rfl := hw.symm; clear hw) | (go_at_call 99; refine (hb2 _).mono ?_; rintro e w' ⟨rfl, hw⟩; obtain rfl := hw.symm; clear hw) | (go_at_call 101; refine (hb3 _).mono ?_; rintro e w' ⟨rfl, hw⟩; obtain rfl := hw.symm; clear hw) | (go_at_call 104; refine (hb4 _).mono ?_; rintro e w' ⟨rfl, hw⟩; obtain rfl := hw.symm; clear hw) | (at_builtin; refine wpList_appendT rfl (.tmp 96) (.tmp 98) rfl (w.heap.size + 1) _ l rfl ((HR.out.alloc _).alloc _) (w.heap.size + 1) _ [⟨3, tx, 0, no, col⟩] rfl (RowT.one2 (wr.alloc _) (w.heap.size + 1) 3 0 no col tx (by simp) rfl rfl rfl rfl (by simp; omega)) (by simp; omega) (by have := HLen.out; simp; omega) ?_; intro v5 w5 hrow5 hgr5))
                  go_roundw
                  case rel =>
                    have hG : Below (w.heap.size + 1) wr w5 := bel_grownT ((Below.refl (w.heap.size + 1) wr).alloc (by omega) _ |>.alloc (by simp; omega) _) ((HR.out.alloc _).alloc _) hgr5 (by simp; omega) (Nat.le_refl _)
                    refine ⟨col, v5, l ++ [(⟨3, tx, 0, no, col⟩ : Tk)], HJ.out.2, rfl, rfl, hrow5, ?_, ?_, ?_, ?_⟩
                    · show w5.heap[w.heap.size]? = _
                      rw [hG.block w.heap.size (Nat.lt_succ_self _)]; exact HZ.out
                    · show _ = _
                      rw [HL.out, lineT_tok hlt0.out h35.out (by rw [HSt.out]) (by rw [HSt.out]; simp), HSt.out, ← HTx.out, ← HC.out]
                      simp
                    · show _ ≤ _
                      have := HLen.out; have := HJ.out.1
                      simp only [List.length_append, List.length_cons, List.length_nil]; omega
                    · exact HBw.out.trans (hG.mono (Nat.le_succ _))
                  case measure => have := HJ.out; simp [intOf]; omega
              · obtain ⟨E, hE⟩ : ∃ E, E = runB (fun k => digitB (bt s k)) i s.size := ⟨_, rfl⟩
                have hgt : i < E := by rw [hE]; exact run_gt (p := fun k => digitB (bt s k)) hlt0.out q3
                have hle : E ≤ n := by rw [hE, HN.out]; exact run_le _ (Nat.le_of_lt hlt0.out)
                rw [← hE] at hds
                have hb : ∀ k, k < (s.extract i E).size → digitB (bt (s.extract i E) k) = true := fun k hk => by
                  have hsz := ex_size s i E (Nat.le_of_lt hgt) (by rw [← HN.out]; exact hle)
                  rw [hsz] at hk
                  rw [bt_ex s i E k (by omega) (by rw [← HN.out]; exact hle)]
                  exact run_all (p := fun k => digitB (bt s k)) _ i (i + k) rfl (by omega) (by rw [← hE]; omega)
                have hsz := ex_size s i E (Nat.le_of_lt hgt) (by rw [← HN.out]; exact hle)
                have hnb := fun W => rnumber (s.extract i E) W (by rw [hsz]; omega) (by rw [hsz]; omega) hb
                have hok : numOk (s.extract i E) 0 (s.extract i E).size = numOk s i E := numOk_ex s i E hgt (by rw [← HN.out]; exact hle)
                have hnf : numF (s.extract i E) 0 (s.extract i E).size = numF s i (E - i) := by rw [hsz]; exact numF_ex s i E (E - i) (by omega) (by rw [← HN.out]; exact hle)
                rw [hok, hnf] at hnb
                obtain ⟨m, hm⟩ : ∃ m, m = E - i := ⟨_, rfl⟩
                have em : (i : Int) + (m : Int) = (E : Int) := by omega
                rw [← hm] at hds
                obtain ⟨tx, htx⟩ : ∃ tx, tx = s.extract i E := ⟨_, rfl⟩
                have HTx : Hid (tx = s.extract i E) := htx
                have hsl := slS s i E (by omega) (by rw [← HN.out]; exact hle)
                rw [← htx] at hsl hnb
                have HJ : Hid (i < E ∧ E ≤ n) := ⟨hgt, hle⟩
                have hE200 : (E : Int) ≤ 200 := by omega
                have hm200 : (m : Int) ≤ 200 := by omega
                cases q5 : numOk s i E
                · have HSt : Hid (stepS s i = ⟨2, E, 0, 91⟩) := by show _ = _; unfold stepS; rw [q1, q2, q3, ← hE, q5]; rfl
                  rw [q5] at hnb
                  rw [q1] at hb1; rw [q2] at hb2; rw [q3] at hb3
                  replace hnb : ∀ W, Calls Tryz.prog 103 #[.string tx] W fun e w' => e = .returned (.tuple #[.int .u32 0, .bool false]) ∧ w' = W := hnb
                  clear htx q1 q2 q3 q5 hE hgt hle hb hsz hok hnf hm hls hb4
                  generalize bt s i = c at hix hb1 hb2 hb3 h35'
                  have HF : Hid (lineA s no = (l, ⟨91, no, col⟩)) := by show _ = _; rw [HA.out, HL.out, lineT_bad hlt0.out h35.out (by rw [HSt.out]; simp), HSt.out, HC.out]; simp
                  go_wp2_with (first | (go_at_call 98; refine (hb1 _).mono ?_; rintro e w' ⟨rfl, hw⟩; obtain rfl := hw.symm; clear hw) | (go_at_call 99; refine (hb2 _).mono ?_; rintro e w' ⟨rfl, hw⟩; obtain rfl := hw.symm; clear hw) | (go_at_call 101; refine (hb3 _).mono ?_; rintro e w' ⟨rfl, hw⟩; obtain rfl := hw.symm; clear hw) | (go_at_call 102; refine (hds _).mono ?_; rintro e w' ⟨rfl, hw⟩; obtain rfl := hw.symm; clear hw) | (go_at_call 103; refine (hnb _).mono ?_; rintro e w' ⟨rfl, hw⟩; obtain rfl := hw.symm; clear hw) | (refine wpList_store_blk rfl 26 (.tmp 5) (.tmp 82) rfl w.heap.size 0 #[.int .i64 91, .int .i64 (no : Int), .int .i64 (col : Int)] #[.int .i64 91, .int .i64 (no : Int), .int .i64 (col : Int)] rfl rfl 26 _ (blk_alloc HZ.out _) (Nat.le_of_ble_eq_true rfl) rfl (by kernel_rfl) rfl ?_; intro w8 hw8 ho8))
                  exact bodyPost_ret (results_blk3 Tryz.results59 rfl hw8 Tryz.underlying26 rfl (by kernel_rfl)) rfl ⟨v, by rw [HF.out]; rfl, by rw [HF.out]; exact ((HR.out.alloc _).only ho8 (Nat.lt_succ_self _)).base (Nat.le_succ _), by exact (bel_al HBw.out _ (Nat.le_refl _)).trans (ho8.below (Nat.le_refl _))⟩
                · have HSt : Hid (stepS s i = ⟨2, E, numF s i (E - i), 0⟩) := by show _ = _; unfold stepS; rw [q1, q2, q3, ← hE, q5]; rfl
                  rw [q5] at hnb
                  rw [q1] at hb1; rw [q2] at hb2; rw [q3] at hb3
                  obtain ⟨vv, hvv⟩ : ∃ vv, vv = numF s i (E - i) := ⟨_, rfl⟩
                  rw [← hvv] at HSt hnb
                  replace hnb : ∀ W, Calls Tryz.prog 103 #[.string tx] W fun e w' => e = .returned (.tuple #[.int .u32 (vv : Int), .bool true]) ∧ w' = W := hnb
                  clear htx q1 q2 q3 q5 hE hgt hle hb hsz hok hnf hm hls hb4 hvv
                  generalize bt s i = c at hix hb1 hb2 hb3 h35'
                  go_wp2_with (first | (go_at_call 98; refine (hb1 _).mono ?_; rintro e w' ⟨rfl, hw⟩; obtain rfl := hw.symm; clear hw) | (go_at_call 99; refine (hb2 _).mono ?_; rintro e w' ⟨rfl, hw⟩; obtain rfl := hw.symm; clear hw) | (go_at_call 101; refine (hb3 _).mono ?_; rintro e w' ⟨rfl, hw⟩; obtain rfl := hw.symm; clear hw) | (go_at_call 102; refine (hds _).mono ?_; rintro e w' ⟨rfl, hw⟩; obtain rfl := hw.symm; clear hw) | (go_at_call 103; refine (hnb _).mono ?_; rintro e w' ⟨rfl, hw⟩; obtain rfl := hw.symm; clear hw) | (at_builtin; refine wpList_appendT rfl (.tmp 96) (.tmp 98) rfl (w.heap.size + 1) _ l rfl ((HR.out.alloc _).alloc _) (w.heap.size + 1) _ [⟨2, tx, vv, no, col⟩] rfl (RowT.one2 (wr.alloc _) (w.heap.size + 1) 2 vv no col tx (by simp) rfl rfl rfl rfl (by simp; omega)) (by simp; omega) (by have := HLen.out; simp; omega) ?_; intro v5 w5 hrow5 hgr5))
                  go_roundw
                  case rel =>
                    have hG : Below (w.heap.size + 1) wr w5 := bel_grownT ((Below.refl (w.heap.size + 1) wr).alloc (by omega) _ |>.alloc (by simp; omega) _) ((HR.out.alloc _).alloc _) hgr5 (by simp; omega) (Nat.le_refl _)
                    refine ⟨E, v5, l ++ [(⟨2, tx, vv, no, col⟩ : Tk)], HJ.out.2, rfl, rfl, hrow5, ?_, ?_, ?_, ?_⟩
                    · show w5.heap[w.heap.size]? = _
                      rw [hG.block w.heap.size (Nat.lt_succ_self _)]; exact HZ.out
                    · show _ = _
                      rw [HL.out, lineT_tok hlt0.out h35.out (by rw [HSt.out]) (by rw [HSt.out]; simp), HSt.out, ← HTx.out, ← HC.out]
                      simp
                    · show _ ≤ _
                      have := HLen.out; have := HJ.out.1
                      simp only [List.length_append, List.length_cons, List.length_nil]; omega
                    · exact HBw.out.trans (hG.mono (Nat.le_succ _))
                  case measure => have := HJ.out; simp [intOf]; omega
            · obtain ⟨E, hE⟩ : ∃ E, E = runB (fun k => letterB (bt s k)) i s.size := ⟨_, rfl⟩
              have hgt : i < E := by rw [hE]; exact run_gt (p := fun k => letterB (bt s k)) hlt0.out q2
              have hle : E ≤ n := by rw [hE, HN.out]; exact run_le _ (Nat.le_of_lt hlt0.out)
              rw [← hE] at hls
              obtain ⟨m, hm⟩ : ∃ m, m = E - i := ⟨_, rfl⟩
              have em : (i : Int) + (m : Int) = (E : Int) := by omega
              rw [← hm] at hls
              have HJ : Hid (i < E ∧ E ≤ n) := ⟨hgt, hle⟩
              have hE200 : (E : Int) ≤ 200 := by omega
              have hm200 : (m : Int) ≤ 200 := by omega
              rw [q1] at hb1; rw [q2] at hb2
              by_cases h16 : 16 < m
              · have HSt : Hid (stepS s i = ⟨1, E, 0, 92⟩) := by show _ = _; unfold stepS; rw [q1, q2, ← hE, if_pos (show 16 < E - i by omega)]; rfl
                have h16' : (16 : Int) < (m : Int) := by omega
                clear q1 q2 hE hgt hle hm hds hb3 hb4
                generalize bt s i = c at hix hb1 hb2 h35'
                have HF : Hid (lineA s no = (l, ⟨92, no, col⟩)) := by show _ = _; rw [HA.out, HL.out, lineT_bad hlt0.out h35.out (by rw [HSt.out]; simp), HSt.out, HC.out]; simp
                go_wp2_with (first | (go_at_call 98; refine (hb1 _).mono ?_; rintro e w' ⟨rfl, hw⟩; obtain rfl := hw.symm; clear hw) | (go_at_call 99; refine (hb2 _).mono ?_; rintro e w' ⟨rfl, hw⟩; obtain rfl := hw.symm; clear hw) | (go_at_call 100; refine (hls _).mono ?_; rintro e w' ⟨rfl, hw⟩; obtain rfl := hw.symm; clear hw) | (refine wpList_store_blk rfl 26 (.tmp 5) (.tmp 58) rfl w.heap.size 0 #[.int .i64 92, .int .i64 (no : Int), .int .i64 (col : Int)] #[.int .i64 92, .int .i64 (no : Int), .int .i64 (col : Int)] rfl rfl 26 _ (blk_alloc HZ.out _) (Nat.le_of_ble_eq_true rfl) rfl (by kernel_rfl) rfl ?_; intro w8 hw8 ho8))
                exact bodyPost_ret (results_blk3 Tryz.results59 rfl hw8 Tryz.underlying26 rfl (by kernel_rfl)) rfl ⟨v, by rw [HF.out]; rfl, by rw [HF.out]; exact ((HR.out.alloc _).only ho8 (Nat.lt_succ_self _)).base (Nat.le_succ _), by exact (bel_al HBw.out _ (Nat.le_refl _)).trans (ho8.below (Nat.le_refl _))⟩
              · have HSt : Hid (stepS s i = ⟨1, E, 0, 0⟩) := by show _ = _; unfold stepS; rw [q1, q2, ← hE, if_neg (show ¬ 16 < E - i by omega)]; rfl
                have h16' : ¬ (16 : Int) < (m : Int) := by omega
                obtain ⟨tx, htx⟩ : ∃ tx, tx = s.extract i E := ⟨_, rfl⟩
                have HTx : Hid (tx = s.extract i E) := htx
                have hsl := slS s i E (by omega) (by rw [← HN.out]; exact hle)
                rw [← htx] at hsl
                clear htx q1 q2 hE hgt hle hm hds hb3 hb4
                generalize bt s i = c at hix hb1 hb2 h35'
                go_wp2_with (first | (go_at_call 98; refine (hb1 _).mono ?_; rintro e w' ⟨rfl, hw⟩; obtain rfl := hw.symm; clear hw) | (go_at_call 99; refine (hb2 _).mono ?_; rintro e w' ⟨rfl, hw⟩; obtain rfl := hw.symm; clear hw) | (go_at_call 100; refine (hls _).mono ?_; rintro e w' ⟨rfl, hw⟩; obtain rfl := hw.symm; clear hw) | (at_builtin; refine wpList_appendT rfl (.tmp 96) (.tmp 98) rfl (w.heap.size + 1) _ l rfl ((HR.out.alloc _).alloc _) (w.heap.size + 1) _ [⟨1, tx, 0, no, col⟩] rfl (RowT.one2 (wr.alloc _) (w.heap.size + 1) 1 0 no col tx (by simp) rfl rfl rfl rfl (by simp; omega)) (by simp; omega) (by have := HLen.out; simp; omega) ?_; intro v5 w5 hrow5 hgr5))
                go_roundw
                case rel =>
                  have hG : Below (w.heap.size + 1) wr w5 := bel_grownT ((Below.refl (w.heap.size + 1) wr).alloc (by omega) _ |>.alloc (by simp; omega) _) ((HR.out.alloc _).alloc _) hgr5 (by simp; omega) (Nat.le_refl _)
                  refine ⟨E, v5, l ++ [(⟨1, tx, 0, no, col⟩ : Tk)], HJ.out.2, rfl, rfl, hrow5, ?_, ?_, ?_, ?_⟩
                  · show w5.heap[w.heap.size]? = _
                    rw [hG.block w.heap.size (Nat.lt_succ_self _)]; exact HZ.out
                  · show _ = _
                    rw [HL.out, lineT_tok hlt0.out h35.out (by rw [HSt.out]) (by rw [HSt.out]; simp), HSt.out, ← HTx.out, ← HC.out]
                    simp
                  · show _ ≤ _
                    have := HLen.out; have := HJ.out.1
                    simp only [List.length_append, List.length_cons, List.length_nil]; omega
                  · exact HBw.out.trans (hG.mono (Nat.le_succ _))
                case measure => have := HJ.out; simp [intOf]; omega
          · have HSt : Hid (stepS s i = ⟨0, i + 1, 0, 0⟩) := by show _ = _; unfold stepS; rw [q1]; rfl
            rw [q1] at hb1
            clear q1
            generalize bt s i = c at hix hb1 hb2 hb3 hb4 h35'
            go_wp2_with (go_at_call 98; refine (hb1 _).mono ?_; rintro e w' ⟨rfl, hw⟩; obtain rfl := hw.symm; clear hw)
            go_roundw
            case rel => exact ⟨col, v, l, by have := HC.out; omega, by rw [← ec], rfl, HR.out.alloc _, blk_alloc HZ.out _, by show _ = _; rw [HL.out, lineT_skip hlt0.out h35.out (by rw [HSt.out]) (by rw [HSt.out]), HSt.out, ← HC.out], by have := HLen.out; have := HC.out; show _ ≤ _; omega, bel_al HBw.out _ (Nat.le_refl _)⟩
            case measure => simp [intOf]; omega
      · obtain rfl : i = n := by omega
        have HF : Hid (lineA s no = (l, ⟨0, 0, 0⟩)) := by show _ = _; rw [HA.out, HL.out, lineT_end (fun c => by have := c.1; rw [← HN.out] at this; omega)]; simp
        have hlt' : ¬ (i : Int) < (i : Int) := by omega
        go_wp2_with (refine wpList_store_blk rfl 26 (.tmp 5) (.tmp 104) rfl w.heap.size 0 #[.int .i64 0, .int .i64 0, .int .i64 0] #[.int .i64 0, .int .i64 0, .int .i64 0] rfl rfl 26 _ HZ.out (Nat.le_of_ble_eq_true rfl) rfl (by kernel_rfl) rfl ?_; intro w8 hw8 ho8)
        exact bodyPost_ret (results_blk3 Tryz.results59 rfl hw8 Tryz.underlying26 rfl (by kernel_rfl)) rfl ⟨v, by rw [HF.out]; rfl, by rw [HF.out]; exact (HR.out.only ho8 (Nat.lt_succ_self _)).base (Nat.le_succ _), by exact HBw.out.trans (ho8.below (Nat.le_refl _))⟩
end Go.Proofs.YtehedlgdencboaaGreatDoor
