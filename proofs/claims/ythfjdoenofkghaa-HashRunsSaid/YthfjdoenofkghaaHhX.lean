/-
  Many headers in, all but one out.
-/
import Derived.Test.YthfjdoenofkghaaHhW
import Derived.Test.YthfjdoenofkghaaHhFr
namespace Go.Proofs.Ythfjdoenofkghaa
open Go.RowKit
set_option linter.unusedVariables false
set_option linter.unusedSimpArgs false

theorem putE_no {m : Hd → Option Int} {M c : Nat} {k : Hd} (h : m k = none) (hc : c < M) : putE m M c k = 0 := by unfold putE; rw [h, if_neg (by simp), if_neg (by omega)]
theorem putN_no {m : Hd → Option Int} {M c : Nat} {k : Hd} (h : m k = none) (hc : c < M) : putN m M c k = c + 1 := by unfold putN; rw [h, if_neg (by simp), if_neg (by omega)]
theorem putM_no {m : Hd → Option Int} {M c : Nat} {k : Hd} {y : Int} (h : m k = none) (hc : c < M) : putM m M c k y = upd m k (some y) := by unfold putM; rw [h, if_neg (by simp), if_neg (by omega)]
theorem putE_full {m : Hd → Option Int} {M c : Nat} {k : Hd} (h : m k = none) (hc : M ≤ c) : putE m M c k = 150 := by unfold putE; rw [h, if_neg (by simp), if_pos hc]
theorem putN_full {m : Hd → Option Int} {M c : Nat} {k : Hd} (h : m k = none) (hc : M ≤ c) : putN m M c k = c := by unfold putN; rw [h, if_neg (by simp), if_pos hc]
theorem putM_full {m : Hd → Option Int} {M c : Nat} {k : Hd} {y : Int} (h : m k = none) (hc : M ≤ c) : putM m M c k y = m := by unfold putM; rw [h, if_neg (by simp), if_pos hc]
theorem delN_in {m : Hd → Option Int} {c : Nat} {k : Hd} {y : Int} (h : m k = some y) : delN m c k = c - 1 := by unfold delN; rw [h]; rfl
theorem i64_sgn {a : Int} (h : I64 a) : ∃ A : Nat, A ≤ 9223372036854775807 ∧ (a < 0 ∧ -(a + 1) = (A : Int) ∨ ¬ a < 0 ∧ a = (A : Int)) := by
  obtain ⟨h1, h2⟩ := h
  by_cases hn : a < 0
  · exact ⟨(-(a + 1)).toNat, by omega, .inl ⟨hn, by omega⟩⟩
  · exact ⟨a.toNat, by omega, .inr ⟨hn, by omega⟩⟩
set_option maxHeartbeats 8000000 in
set_option maxRecDepth 20000 in
theorem grows_walk (f : Hd) (o : OkH f) (a : Int) (ha : I64 a) (st0 : Nat) (hst : st0 < 4294967296) (b : Int) (hb : I64 b) (w : World) :
    Calls Try.prog 5 #[.agg #[.int .u32 (f.s : Int), .int .u32 (f.d : Int), .int .u16 (f.p : Int), .int .u16 (f.q : Int), .int .u8 (f.r : Int)], .int .i64 a, .int .u32 (st0 : Int), .int .i64 b] w fun e w' => e = .returned (.bool true) ∧ Below w.heap.size w w' := by
  have HK1 : Hid ((w.alloc (.cells #[.int .u32 (f.s : Int), .int .u32 (f.d : Int), .int .u16 (f.p : Int), .int .u16 (f.q : Int), .int .u8 (f.r : Int)] 36)).heap[w.heap.size]? = some (.cells #[.int .u32 (f.s : Int), .int .u32 (f.d : Int), .int .u16 (f.p : Int), .int .u16 (f.q : Int), .int .u8 (f.r : Int)] 36)) := blk_new w _
  have HB1 : Hid (Below w.heap.size w (w.alloc (.cells #[.int .u32 (f.s : Int), .int .u32 (f.d : Int), .int .u16 (f.p : Int), .int .u16 (f.q : Int), .int .u8 (f.r : Int)] 36))) := (Below.refl _ _).alloc (Nat.le_refl _) _
  have hW1 : w.heap.size < (w.alloc (.cells #[.int .u32 (f.s : Int), .int .u32 (f.d : Int), .int .u16 (f.p : Int), .int .u16 (f.q : Int), .int .u8 (f.r : Int)] 36)).heap.size := by simp
  have HO : Hid (OkH f) := o
  obtain ⟨ha1, ha2⟩ := id ha
  obtain ⟨hb1, hb2⟩ := id hb
  obtain ⟨A, hA, hAc⟩ := i64_sgn ha
  obtain ⟨E, hE, hEc⟩ := i64_sgn hb
  obtain ⟨N, hN⟩ : ∃ N, N = 1 + A % 2000 := ⟨_, rfl⟩
  obtain ⟨s, hs⟩ : ∃ s, s = E % N := ⟨_, rfl⟩
  have hN1 : 1 ≤ N := by omega
  have hN2 : N ≤ 2000 := by omega
  have hs1 : s < N := by rw [hs]; exact Nat.mod_lt _ (by omega)
  have EN : Hid ((1 : Int) + (A : Int) % 2000 = (N : Int)) := by show _ = _; omega
  have ES : Hid ((E : Int) % (N : Int) = (s : Int)) := by show _ = _; rw [hs]; rfl
  have HN : Hid (N = 1 + A % 2000) := hN
  clear hN hs ha hb o
  go_enter Try.func5, Try.ntmps5
  go_upto_region 1 with (fail)
  generalize w.alloc (.cells #[.int .u32 (f.s : Int), .int .u32 (f.d : Int), .int .u16 (f.p : Int), .int .u16 (f.q : Int), .int .u8 (f.r : Int)] 36) = W1 at *
  rcases hAc with ⟨hn, hAe⟩ | ⟨hn, rfl⟩
  · rcases hEc with ⟨hm, hEe⟩ | ⟨hm, rfl⟩
    · go_upto_region 7 with (fail)
      rw [EN.out, ES.out]
      clear hn hm EN ES
      obtain ⟨ST, hST⟩ : ∃ ST, ST = st0 ||| 1 := ⟨_, rfl⟩
      have hodd : ST % 2 = 1 := by
        have h := Nat.testBit_or st0 1 0
        rw [show (1 : Nat).testBit 0 = true from rfl, Bool.or_true, Nat.testBit_zero, decide_eq_true_eq, ← hST] at h
        exact h
      have hSTl : ST < 4294967296 := by rw [hST]; exact Nat.or_lt_two_pow (n := 32) hst (by decide)
      have hor : bits .or .u32 (st0 : Int) 1 = (ST : Int) := by rw [hST]; exact u32_or_nat st0 1 hst (by decide)
      clear hST
      go_wp2_with (fail)
      refine (newC N W1 hN1 (by omega)).mono ?_
      rintro e w2 ⟨t, rfl, ho2⟩
      obtain ⟨v2, hog2⟩ := og_of ho2
      have HG2 : Hid (Og W1 w2 t v2 N 0 0 m0) := hog2
      clear ho2 hog2
      obtain ⟨k0, k1, k2, k3, k4⟩ := blk5 (blk_on HK1.out HG2.out.bel)
      go_upto_region 12 with (fail)
      have b3 : Below w2.heap.size w2 (w2.alloc (.cells #[.int .u32 (f.s : Int), .int .u32 (f.d : Int), .int .u16 (f.p : Int), .int .u16 (f.q : Int), .int .u8 (f.r : Int)] 36)) := (Below.refl _ _).alloc (Nat.le_refl _) _
      have HG3 : Hid (Og W1 (w2.alloc (.cells #[.int .u32 (f.s : Int), .int .u32 (f.d : Int), .int .u16 (f.p : Int), .int .u16 (f.q : Int), .int .u8 (f.r : Int)] 36)) t v2 N 0 0 m0) := HG2.out.on b3
      have HH3 : Hid (Kb (w2.alloc (.cells #[.int .u32 (f.s : Int), .int .u32 (f.d : Int), .int .u16 (f.p : Int), .int .u16 (f.q : Int), .int .u8 (f.r : Int)] 36)) t v2 w2.heap.size (.cells #[.int .u32 (((kyN f ST 0)).s : Int), .int .u32 (((kyN f ST 0)).d : Int), .int .u16 (((kyN f ST 0)).p : Int), .int .u16 (((kyN f ST 0)).q : Int), .int .u8 (((kyN f ST 0)).r : Int)] 36)) := by show Kb _ _ _ _ _; rw [ky_zero HO.out]; exact HG2.out.new b3 (Nat.le_refl _) (blk_new w2 _)
      have hBW : W1.heap.size ≤ w2.heap.size := HG2.out.bel.size
      clear b3 HG2 k0 k1 k2 k3 k4
      generalize w2.alloc (.cells #[.int .u32 (f.s : Int), .int .u32 (f.d : Int), .int .u16 (f.p : Int), .int .u16 (f.q : Int), .int .u8 (f.r : Int)] 36) = w3 at *
      generalize w2.heap.size = B at *
      go_wp2_with (fail)
      go_loopw [12] (fun vi wr => ∃ (i P : Nat) (v : Value), i ≤ N ∧ vi = .int .i64 (i : Int) ∧ Hid (Og W1 wr t v N i P (gmN f ST i)) ∧ Hid (Kb wr t v B (.cells #[.int .u32 (((kyN f ST i)).s : Int), .int .u32 (((kyN f ST i)).d : Int), .int .u16 (((kyN f ST i)).p : Int), .int .u16 (((kyN f ST i)).q : Int), .int .u8 (((kyN f ST i)).r : Int)] 36))) (fun vi _ => N - (intOf vi).toNat)
      case atStart => exact ⟨0, 0, v2, Nat.zero_le _, rfl, HG3.out, HH3.out⟩
      case round =>
        clear HG3 HH3
        obtain ⟨i, P, v, hi, rfl, HG, HH⟩ := hrel
        obtain ⟨k0, k1, k2, k3, k4⟩ := blk5 HH.out.1
        by_cases hlt : i < N
        · have hlti : (i : Int) < (N : Int) := by omega
          have hpt := og_put (kyN f ST i) (i : Int) HG.out (ky_ok HO.out ST i)
          have hno := gm_far (f := f) hodd i i (Nat.le_refl _) (by omega)
          rw [putE_no hno hlt, putN_no hno hlt, putM_no hno hlt] at hpt
          clear hno
          go_wp2_with (fail)
          refine hpt.mono ?_
          rintro e w5 ⟨rfl, v5, hg5, hm5⟩
          have HG5 : Hid (Og W1 w5 t v5 N (i + 1) (max P (i + 1)) (gmN f ST (i + 1))) := hg5
          have HH5 : Hid (Kb w5 t v5 B (.cells #[.int .u32 (((kyN f ST i)).s : Int), .int .u32 (((kyN f ST i)).d : Int), .int .u16 (((kyN f ST i)).p : Int), .int .u16 (((kyN f ST i)).q : Int), .int .u8 (((kyN f ST i)).r : Int)] 36)) := HH.out.moved hm5
          have hadd : IntKind.u32.wrap (((kyN f ST i).d : Int) + (ST : Int)) = ((kyN f ST (i + 1)).d : Int) := by
            rw [IntKind.wrap_u32, ← ky_succ]; omega
          have HG6 : Hid (Og W1 (w5.setCell ⟨B, 1, none⟩ (.int .u32 ((kyN f ST (i + 1)).d : Int))) t v5 N (i + 1) (max P (i + 1)) (gmN f ST (i + 1))) := HG5.out.cells (only_setCell _ _ _ _) HH5.out.2.1 HH5.out.2.2 hBW
          have HH6 : Hid (Kb (w5.setCell ⟨B, 1, none⟩ (.int .u32 ((kyN f ST (i + 1)).d : Int))) t v5 B (.cells #[.int .u32 (((kyN f ST (i + 1))).s : Int), .int .u32 (((kyN f ST (i + 1))).d : Int), .int .u16 (((kyN f ST (i + 1))).p : Int), .int .u16 (((kyN f ST (i + 1))).q : Int), .int .u8 (((kyN f ST (i + 1))).r : Int)] 36)) := ⟨blk_set HH5.out.1 (j := 1) _, HH5.out.2⟩
          clear hpt hg5 hm5 k0 k1 k2 k3 k4 HG HH
          obtain ⟨k0, k1, k2, k3, k4⟩ := blk5 HH5.out.1
          have f1 := blk_free HH5.out.1 1
          clear HG5 HH5
          go_wp2_with (fail)
          go_roundw
          case rel => exact ⟨i + 1, max P (i + 1), v5, by omega, by go_num, HG6.out, HH6.out⟩
          case measure => simp [intOf]; omega
        · obtain rfl : i = N := by omega
          have hni : ¬ (i : Int) < (i : Int) := by omega
          have hpt := og_put (kyN f ST i) (-1) HG.out (ky_ok HO.out ST i)
          have hno := gm_far (f := f) hodd i i (Nat.le_refl _) (by omega)
          rw [putE_full hno (Nat.le_refl _), putN_full hno (Nat.le_refl _), putM_full hno (Nat.le_refl _)] at hpt
          clear hno
          go_wp2_with (fail)
          refine hpt.mono ?_
          rintro e w5 ⟨rfl, v5, hg5, hm5⟩
          have HG5 : Hid (Og W1 w5 t v5 i i (max P i) (gmN f ST i)) := hg5
          have HH5 : Hid (Kb w5 t v5 B (.cells #[.int .u32 (((kyN f ST i)).s : Int), .int .u32 (((kyN f ST i)).d : Int), .int .u16 (((kyN f ST i)).p : Int), .int .u16 (((kyN f ST i)).q : Int), .int .u8 (((kyN f ST i)).r : Int)] 36)) := HH.out.moved hm5
          have HP5 : Hid (max P i ≤ i) := by obtain ⟨_, _, _, _, _, _, _, q1, q2, q3⟩ := hg5.a; exact q2
          clear hpt hg5 hm5 k0 k1 k2 k3 k4 HG HH
          obtain ⟨k0, k1, k2, k3, k4⟩ := blk5 HH5.out.1
          have hbd := boundsC t v5 i i (max P i) i (gmN f ST i) (kyN f ST i) w5 HG5.out.a (ky_ok HO.out ST i) HP5.out (by omega)
          go_wp2_with (fail)
          refine hbd.mono ?_
          rintro e w6 ⟨rfl, hb6⟩
          have HG6 : Hid (Og W1 w6 t v5 i i (max P i) (gmN f ST i)) := HG5.out.on hb6
          have HH6 : Hid (Kb w6 t v5 B (.cells #[.int .u32 (((kyN f ST i)).s : Int), .int .u32 (((kyN f ST i)).d : Int), .int .u16 (((kyN f ST i)).p : Int), .int .u16 (((kyN f ST i)).q : Int), .int .u8 (((kyN f ST i)).r : Int)] 36)) := HH5.out.on hb6
          clear hbd hb6 HG5 HH5 k0 k1 k2 k3 k4
          obtain ⟨k0, k1, k2, k3, k4⟩ := blk5 (blk_on HK1.out HG6.out.bel)
          go_upto_region 22 with (refine wpList_store_blk rfl 36 (.tmp 11) (.tmp 76) rfl B 0 #[.int .u32 (f.s : Int), .int .u32 (f.d : Int), .int .u16 (f.p : Int), .int .u16 (f.q : Int), .int .u8 (f.r : Int)] #[.int .u32 (f.s : Int), .int .u32 (f.d : Int), .int .u16 (f.p : Int), .int .u16 (f.q : Int), .int .u8 (f.r : Int)] rfl rfl 36 _ HH6.out.1 (Nat.le_of_ble_eq_true rfl) rfl (by kernel_rfl) rfl ?_; intro w7 hw7 how7)
          simp only [List.getElem_toArray, List.getElem_cons_succ, List.getElem_cons_zero, Act.put, List.setIfInBounds_toArray, List.set_cons_zero, List.set_cons_succ]
          have HG7 : Hid (Og W1 w7 t v5 i i (max P i) (gmN f ST i)) := HG6.out.cells how7 HH6.out.2.1 HH6.out.2.2 hBW
          have HH7 : Hid (Kb w7 t v5 B (.cells #[.int .u32 (((kyN f ST 0)).s : Int), .int .u32 (((kyN f ST 0)).d : Int), .int .u16 (((kyN f ST 0)).p : Int), .int .u16 (((kyN f ST 0)).q : Int), .int .u8 (((kyN f ST 0)).r : Int)] 36)) := by show Kb _ _ _ _ _; rw [ky_zero HO.out]; exact ⟨hw7, HH6.out.2⟩
          clear hw7 how7 HG6 HH6 k0 k1 k2 k3 k4
          go_wp2_with (fail)
          go_loopw [14] (fun vj wr => ∃ (j : Nat) (v : Value), j ≤ i ∧ vj = .int .i64 (j : Int) ∧ Hid (Og W1 wr t v i (cnN i s j) (max P i) (dmN f ST i s j)) ∧ Hid (Kb wr t v B (.cells #[.int .u32 (((kyN f ST j)).s : Int), .int .u32 (((kyN f ST j)).d : Int), .int .u16 (((kyN f ST j)).p : Int), .int .u16 (((kyN f ST j)).q : Int), .int .u8 (((kyN f ST j)).r : Int)] 36))) (fun vj _ => i - (intOf vj).toNat)
          case atStart => exact ⟨0, v5, Nat.zero_le _, rfl, by show Og _ _ _ _ _ _ _ _; rw [show cnN i s 0 = i by unfold cnN; simp]; exact HG7.out, HH7.out⟩
          case round =>
            clear HG7 HH7
            obtain ⟨j, v, hj, rfl, HG, HH⟩ := hrel
            obtain ⟨k0, k1, k2, k3, k4⟩ := blk5 HH.out.1
            by_cases hlt2 : j < i
            · have hlti : (j : Int) < (i : Int) := by omega
              have hget := og_get (kyN f ST j) HG.out (ky_ok HO.out ST j)
              have hin := dm_in (f := f) (st := ST) (n := i) (s := s) hodd (by omega) j j (by omega) hlt2 (.inl (Nat.le_refl _))
              have Hin : Hid (dmN f ST i s j (kyN f ST j) = some (j : Int)) := hin
              rw [hin] at hget
              have hadd : IntKind.u32.wrap (((kyN f ST j).d : Int) + (ST : Int)) = ((kyN f ST (j + 1)).d : Int) := by
                rw [IntKind.wrap_u32, ← ky_succ]; omega
              clear hin
              go_wp2_with (fail)
              refine hget.mono ?_
              rintro e w8 ⟨rfl, hb8⟩
              have HG8 : Hid (Og W1 w8 t v i (cnN i s j) (max P i) (dmN f ST i s j)) := HG.out.on hb8
              have HH8 : Hid (Kb w8 t v B (.cells #[.int .u32 (((kyN f ST j)).s : Int), .int .u32 (((kyN f ST j)).d : Int), .int .u16 (((kyN f ST j)).p : Int), .int .u16 (((kyN f ST j)).q : Int), .int .u8 (((kyN f ST j)).r : Int)] 36)) := HH.out.on hb8
              clear hget hb8 HG HH k0 k1 k2 k3 k4
              obtain ⟨k0, k1, k2, k3, k4⟩ := blk5 HH8.out.1
              have f1 := blk_free HH8.out.1 1
              simp only [Option.getD_some, Option.isSome_some]
              by_cases hjs : j = s
              · have HG9 : Hid (Og W1 (w8.setCell ⟨B, 1, none⟩ (.int .u32 ((kyN f ST (j + 1)).d : Int))) t v i (cnN i s (j + 1)) (max P i) (dmN f ST i s (j + 1))) := by
                  show Og _ _ _ _ _ _ _ _
                  rw [show cnN i s (j + 1) = cnN i s j by unfold cnN; rw [if_pos (by omega), if_neg (by omega)]; omega, show dmN f ST i s (j + 1) = dmN f ST i s j by rw [dmN]; exact if_pos hjs]
                  exact HG8.out.cells (only_setCell _ _ _ _) HH8.out.2.1 HH8.out.2.2 hBW
                have HH9 : Hid (Kb (w8.setCell ⟨B, 1, none⟩ (.int .u32 ((kyN f ST (j + 1)).d : Int))) t v B (.cells #[.int .u32 (((kyN f ST (j + 1))).s : Int), .int .u32 (((kyN f ST (j + 1))).d : Int), .int .u16 (((kyN f ST (j + 1))).p : Int), .int .u16 (((kyN f ST (j + 1))).q : Int), .int .u8 (((kyN f ST (j + 1))).r : Int)] 36)) := ⟨blk_set HH8.out.1 (j := 1) _, HH8.out.2⟩
                have hjs2 : (j : Int) = (s : Int) := by omega
                clear HG8 HH8 hjs
                go_wp2_with (fail)
                go_roundw
                case rel => exact ⟨j + 1, v, by omega, by go_num, HG9.out, HH9.out⟩
                case measure => simp [intOf]; omega
              · have hjs2 : ¬ (j : Int) = (s : Int) := by omega
                have hdel := og_del (kyN f ST j) HG8.out (ky_ok HO.out ST j)
                rw [delN_in Hin.out, Hin.out] at hdel
                simp only [Option.isSome_some] at hdel
                go_wp2_with (fail)
                refine hdel.mono ?_
                rintro e w9 ⟨rfl, hg9, hm9⟩
                have HG9 : Hid (Og W1 w9 t v i (cnN i s (j + 1)) (max P i) (dmN f ST i s (j + 1))) := by
                  show Og _ _ _ _ _ _ _ _
                  rw [show cnN i s (j + 1) = cnN i s j - 1 by unfold cnN; by_cases q : s < j; rw [if_pos (by omega), if_pos q]; omega; rw [if_neg (by omega), if_neg q]; omega, show dmN f ST i s (j + 1) = upd (dmN f ST i s j) (kyN f ST j) none by rw [dmN]; exact if_neg hjs]
                  exact hg9
                have HH9 : Hid (Kb w9 t v B (.cells #[.int .u32 (((kyN f ST j)).s : Int), .int .u32 (((kyN f ST j)).d : Int), .int .u16 (((kyN f ST j)).p : Int), .int .u16 (((kyN f ST j)).q : Int), .int .u8 (((kyN f ST j)).r : Int)] 36)) := HH8.out.moved hm9
                have HG10 : Hid (Og W1 (w9.setCell ⟨B, 1, none⟩ (.int .u32 ((kyN f ST (j + 1)).d : Int))) t v i (cnN i s (j + 1)) (max P i) (dmN f ST i s (j + 1))) := HG9.out.cells (only_setCell _ _ _ _) HH9.out.2.1 HH9.out.2.2 hBW
                have HH10 : Hid (Kb (w9.setCell ⟨B, 1, none⟩ (.int .u32 ((kyN f ST (j + 1)).d : Int))) t v B (.cells #[.int .u32 (((kyN f ST (j + 1))).s : Int), .int .u32 (((kyN f ST (j + 1))).d : Int), .int .u16 (((kyN f ST (j + 1))).p : Int), .int .u16 (((kyN f ST (j + 1))).q : Int), .int .u8 (((kyN f ST (j + 1))).r : Int)] 36)) := ⟨blk_set HH9.out.1 (j := 1) _, HH9.out.2⟩
                clear hdel hg9 hm9 HG8 HH8 k0 k1 k2 k3 k4 f1
                obtain ⟨k0, k1, k2, k3, k4⟩ := blk5 HH9.out.1
                have f1 := blk_free HH9.out.1 1
                clear HG9 HH9
                go_wp2_with (fail)
                go_roundw
                case rel => exact ⟨j + 1, v, by omega, by go_num, HG10.out, HH10.out⟩
                case measure => simp [intOf]; omega
            · obtain rfl : j = i := by omega
              have hnj : ¬ (j : Int) < (j : Int) := by omega
              clear k0 k1 k2 k3 k4
              obtain ⟨k0, k1, k2, k3, k4⟩ := blk5 (blk_on HK1.out HG.out.bel)
              go_upto_region 31 with (fail)
              have ek : ((f.d : Int) + (s : Int) * (ST : Int)) % 4294967296 = ((kyN f ST s).d : Int) := by
                show _ = (((f.d + s * ST) % 4294967296 : Nat) : Int)
                rw [Int.natCast_emod, Int.natCast_add, Int.natCast_mul]; rfl
              rw [ek]
              have hcn : cnN j s j = 1 := by unfold cnN; rw [if_pos hs1]; omega
              rw [hcn] at HG
              have b9 : Below wr.heap.size wr (wr.alloc (.cells #[.int .u32 (((kyN f ST s)).s : Int), .int .u32 (((kyN f ST s)).d : Int), .int .u16 (((kyN f ST s)).p : Int), .int .u16 (((kyN f ST s)).q : Int), .int .u8 (((kyN f ST s)).r : Int)] 36)) := (Below.refl _ _).alloc (Nat.le_refl _) _
              have HG9 : Hid (Og W1 (wr.alloc (.cells #[.int .u32 (((kyN f ST s)).s : Int), .int .u32 (((kyN f ST s)).d : Int), .int .u16 (((kyN f ST s)).p : Int), .int .u16 (((kyN f ST s)).q : Int), .int .u8 (((kyN f ST s)).r : Int)] 36)) t v j 1 (max P j) (dmN f ST j s j)) := HG.out.on b9
              have HK9 : Hid ((wr.alloc (.cells #[.int .u32 (((kyN f ST s)).s : Int), .int .u32 (((kyN f ST s)).d : Int), .int .u16 (((kyN f ST s)).p : Int), .int .u16 (((kyN f ST s)).q : Int), .int .u8 (((kyN f ST s)).r : Int)] 36)).heap[wr.heap.size]? = some (.cells #[.int .u32 (((kyN f ST s)).s : Int), .int .u32 (((kyN f ST s)).d : Int), .int .u16 (((kyN f ST s)).p : Int), .int .u16 (((kyN f ST s)).q : Int), .int .u8 (((kyN f ST s)).r : Int)] 36)) := blk_new wr _
              change Code.wp _ _ _ _ (wr.alloc (.cells #[.int .u32 (((kyN f ST s)).s : Int), .int .u32 (((kyN f ST s)).d : Int), .int .u16 (((kyN f ST s)).p : Int), .int .u16 (((kyN f ST s)).q : Int), .int .u8 (((kyN f ST s)).r : Int)] 36))
              clear ek hcn b9 HG HH k0 k1 k2 k3 k4
              generalize wr.alloc (.cells #[.int .u32 (((kyN f ST s)).s : Int), .int .u32 (((kyN f ST s)).d : Int), .int .u16 (((kyN f ST s)).p : Int), .int .u16 (((kyN f ST s)).q : Int), .int .u8 (((kyN f ST s)).r : Int)] 36) = w9 at *
              generalize wr.heap.size = B2 at *
              go_wp2_with (fail)
              refine (awakeC w9).mono ?_
              rintro e w10 ⟨rfl, hb10⟩
              have HG10 : Hid (Og W1 w10 t v j 1 (max P j) (dmN f ST j s j)) := HG9.out.on hb10
              have HK10 : Hid (w10.heap[B2]? = some (.cells #[.int .u32 (((kyN f ST s)).s : Int), .int .u32 (((kyN f ST s)).d : Int), .int .u16 (((kyN f ST s)).p : Int), .int .u16 (((kyN f ST s)).q : Int), .int .u8 (((kyN f ST s)).r : Int)] 36)) := blk_on HK9.out hb10
              clear hb10 HG9 HK9
              obtain ⟨k0, k1, k2, k3, k4⟩ := blk5 HK10.out
              have hbd : Calls Try.prog 17 #[.pointer (some ⟨t, 0, none⟩), .int .i64 1, .int .i64 (j : Int), .agg #[.int .u32 (((kyN f ST s)).s : Int), .int .u32 (((kyN f ST s)).d : Int), .int .u16 (((kyN f ST s)).p : Int), .int .u16 (((kyN f ST s)).q : Int), .int .u8 (((kyN f ST s)).r : Int)]] w10 fun e w' => e = .returned (.bool true) ∧ Below w10.heap.size w10 w' := boundsC t v j 1 (max P j) j (dmN f ST j s j) (kyN f ST s) w10 HG10.out.a (ky_ok HO.out ST s) HP5.out (by omega)
              go_wp2_with (fail)
              refine hbd.mono ?_
              rintro e w11 ⟨rfl, hb11⟩
              have HG11 : Hid (Og W1 w11 t v j 1 (max P j) (dmN f ST j s j)) := HG10.out.on hb11
              have HK11 : Hid (w11.heap[B2]? = some (.cells #[.int .u32 (((kyN f ST s)).s : Int), .int .u32 (((kyN f ST s)).d : Int), .int .u16 (((kyN f ST s)).p : Int), .int .u16 (((kyN f ST s)).q : Int), .int .u8 (((kyN f ST s)).r : Int)] 36)) := blk_on HK10.out hb11
              clear hbd hb11 HG10 HK10 k0 k1 k2 k3 k4
              obtain ⟨k0, k1, k2, k3, k4⟩ := blk5 HK11.out
              have b12 : Below w11.heap.size w11 (w11.alloc (.cells #[.int .u32 (((⟨kyN f ST s, (s : Int)⟩ : Ey)).k.s : Int), .int .u32 (((⟨kyN f ST s, (s : Int)⟩ : Ey)).k.d : Int), .int .u16 (((⟨kyN f ST s, (s : Int)⟩ : Ey)).k.p : Int), .int .u16 (((⟨kyN f ST s, (s : Int)⟩ : Ey)).k.q : Int), .int .u8 (((⟨kyN f ST s, (s : Int)⟩ : Ey)).k.r : Int), .int .i64 ((⟨kyN f ST s, (s : Int)⟩ : Ey)).v] 52)) := (Below.refl _ _).alloc (Nat.le_refl _) _
              have hall := allsC t v j 1 (max P j) (dmN f ST j s j) [⟨kyN f ST s, (s : Int)⟩] (.slice (some ⟨w11.heap.size, 0, none⟩) 1 1) 0 (w11.alloc (.cells #[.int .u32 (((⟨kyN f ST s, (s : Int)⟩ : Ey)).k.s : Int), .int .u32 (((⟨kyN f ST s, (s : Int)⟩ : Ey)).k.d : Int), .int .u16 (((⟨kyN f ST s, (s : Int)⟩ : Ey)).k.p : Int), .int .u16 (((⟨kyN f ST s, (s : Int)⟩ : Ey)).k.q : Int), .int .u8 (((⟨kyN f ST s, (s : Int)⟩ : Ey)).k.r : Int), .int .i64 ((⟨kyN f ST s, (s : Int)⟩ : Ey)).v] 52)) (HG11.out.a.on b12) (dm_tells HO.out hodd (by omega) hs1) (RowY.one w11 0 ⟨kyN f ST s, (s : Int)⟩ (Nat.zero_le _)).src (by simp) (by decide) (by decide)
              have HB12 : Hid (Below w.heap.size w (w11.alloc (.cells #[.int .u32 (((⟨kyN f ST s, (s : Int)⟩ : Ey)).k.s : Int), .int .u32 (((⟨kyN f ST s, (s : Int)⟩ : Ey)).k.d : Int), .int .u16 (((⟨kyN f ST s, (s : Int)⟩ : Ey)).k.p : Int), .int .u16 (((⟨kyN f ST s, (s : Int)⟩ : Ey)).k.q : Int), .int .u8 (((⟨kyN f ST s, (s : Int)⟩ : Ey)).k.r : Int), .int .i64 ((⟨kyN f ST s, (s : Int)⟩ : Ey)).v] 52))) := HB1.out.trans ((HG11.out.bel.trans (b12.mono HG11.out.bel.size)).mono HB1.out.size)
              clear b12 HG11 HK11
              go_wp2_with (fail)
              refine hall.mono ?_
              rintro e w13 ⟨rfl, hb13⟩
              have HB13 : Hid (Below w.heap.size w w13) := bel_of HB12.out hb13 HB12.out.size
              clear hall hb13 HB12
              go_wp2_with (fail)
              go_ret
              exact ⟨rfl, HB13.out⟩
    · go_upto_region 7 with (fail)
      rw [EN.out, ES.out]
      clear hn hm EN ES
      obtain ⟨ST, hST⟩ : ∃ ST, ST = st0 ||| 1 := ⟨_, rfl⟩
      have hodd : ST % 2 = 1 := by
        have h := Nat.testBit_or st0 1 0
        rw [show (1 : Nat).testBit 0 = true from rfl, Bool.or_true, Nat.testBit_zero, decide_eq_true_eq, ← hST] at h
        exact h
      have hSTl : ST < 4294967296 := by rw [hST]; exact Nat.or_lt_two_pow (n := 32) hst (by decide)
      have hor : bits .or .u32 (st0 : Int) 1 = (ST : Int) := by rw [hST]; exact u32_or_nat st0 1 hst (by decide)
      clear hST
      go_wp2_with (fail)
      refine (newC N W1 hN1 (by omega)).mono ?_
      rintro e w2 ⟨t, rfl, ho2⟩
      obtain ⟨v2, hog2⟩ := og_of ho2
      have HG2 : Hid (Og W1 w2 t v2 N 0 0 m0) := hog2
      clear ho2 hog2
      obtain ⟨k0, k1, k2, k3, k4⟩ := blk5 (blk_on HK1.out HG2.out.bel)
      go_upto_region 12 with (fail)
      have b3 : Below w2.heap.size w2 (w2.alloc (.cells #[.int .u32 (f.s : Int), .int .u32 (f.d : Int), .int .u16 (f.p : Int), .int .u16 (f.q : Int), .int .u8 (f.r : Int)] 36)) := (Below.refl _ _).alloc (Nat.le_refl _) _
      have HG3 : Hid (Og W1 (w2.alloc (.cells #[.int .u32 (f.s : Int), .int .u32 (f.d : Int), .int .u16 (f.p : Int), .int .u16 (f.q : Int), .int .u8 (f.r : Int)] 36)) t v2 N 0 0 m0) := HG2.out.on b3
      have HH3 : Hid (Kb (w2.alloc (.cells #[.int .u32 (f.s : Int), .int .u32 (f.d : Int), .int .u16 (f.p : Int), .int .u16 (f.q : Int), .int .u8 (f.r : Int)] 36)) t v2 w2.heap.size (.cells #[.int .u32 (((kyN f ST 0)).s : Int), .int .u32 (((kyN f ST 0)).d : Int), .int .u16 (((kyN f ST 0)).p : Int), .int .u16 (((kyN f ST 0)).q : Int), .int .u8 (((kyN f ST 0)).r : Int)] 36)) := by show Kb _ _ _ _ _; rw [ky_zero HO.out]; exact HG2.out.new b3 (Nat.le_refl _) (blk_new w2 _)
      have hBW : W1.heap.size ≤ w2.heap.size := HG2.out.bel.size
      clear b3 HG2 k0 k1 k2 k3 k4
      generalize w2.alloc (.cells #[.int .u32 (f.s : Int), .int .u32 (f.d : Int), .int .u16 (f.p : Int), .int .u16 (f.q : Int), .int .u8 (f.r : Int)] 36) = w3 at *
      generalize w2.heap.size = B at *
      go_wp2_with (fail)
      go_loopw [12] (fun vi wr => ∃ (i P : Nat) (v : Value), i ≤ N ∧ vi = .int .i64 (i : Int) ∧ Hid (Og W1 wr t v N i P (gmN f ST i)) ∧ Hid (Kb wr t v B (.cells #[.int .u32 (((kyN f ST i)).s : Int), .int .u32 (((kyN f ST i)).d : Int), .int .u16 (((kyN f ST i)).p : Int), .int .u16 (((kyN f ST i)).q : Int), .int .u8 (((kyN f ST i)).r : Int)] 36))) (fun vi _ => N - (intOf vi).toNat)
      case atStart => exact ⟨0, 0, v2, Nat.zero_le _, rfl, HG3.out, HH3.out⟩
      case round =>
        clear HG3 HH3
        obtain ⟨i, P, v, hi, rfl, HG, HH⟩ := hrel
        obtain ⟨k0, k1, k2, k3, k4⟩ := blk5 HH.out.1
        by_cases hlt : i < N
        · have hlti : (i : Int) < (N : Int) := by omega
          have hpt := og_put (kyN f ST i) (i : Int) HG.out (ky_ok HO.out ST i)
          have hno := gm_far (f := f) hodd i i (Nat.le_refl _) (by omega)
          rw [putE_no hno hlt, putN_no hno hlt, putM_no hno hlt] at hpt
          clear hno
          go_wp2_with (fail)
          refine hpt.mono ?_
          rintro e w5 ⟨rfl, v5, hg5, hm5⟩
          have HG5 : Hid (Og W1 w5 t v5 N (i + 1) (max P (i + 1)) (gmN f ST (i + 1))) := hg5
          have HH5 : Hid (Kb w5 t v5 B (.cells #[.int .u32 (((kyN f ST i)).s : Int), .int .u32 (((kyN f ST i)).d : Int), .int .u16 (((kyN f ST i)).p : Int), .int .u16 (((kyN f ST i)).q : Int), .int .u8 (((kyN f ST i)).r : Int)] 36)) := HH.out.moved hm5
          have hadd : IntKind.u32.wrap (((kyN f ST i).d : Int) + (ST : Int)) = ((kyN f ST (i + 1)).d : Int) := by
            rw [IntKind.wrap_u32, ← ky_succ]; omega
          have HG6 : Hid (Og W1 (w5.setCell ⟨B, 1, none⟩ (.int .u32 ((kyN f ST (i + 1)).d : Int))) t v5 N (i + 1) (max P (i + 1)) (gmN f ST (i + 1))) := HG5.out.cells (only_setCell _ _ _ _) HH5.out.2.1 HH5.out.2.2 hBW
          have HH6 : Hid (Kb (w5.setCell ⟨B, 1, none⟩ (.int .u32 ((kyN f ST (i + 1)).d : Int))) t v5 B (.cells #[.int .u32 (((kyN f ST (i + 1))).s : Int), .int .u32 (((kyN f ST (i + 1))).d : Int), .int .u16 (((kyN f ST (i + 1))).p : Int), .int .u16 (((kyN f ST (i + 1))).q : Int), .int .u8 (((kyN f ST (i + 1))).r : Int)] 36)) := ⟨blk_set HH5.out.1 (j := 1) _, HH5.out.2⟩
          clear hpt hg5 hm5 k0 k1 k2 k3 k4 HG HH
          obtain ⟨k0, k1, k2, k3, k4⟩ := blk5 HH5.out.1
          have f1 := blk_free HH5.out.1 1
          clear HG5 HH5
          go_wp2_with (fail)
          go_roundw
          case rel => exact ⟨i + 1, max P (i + 1), v5, by omega, by go_num, HG6.out, HH6.out⟩
          case measure => simp [intOf]; omega
        · obtain rfl : i = N := by omega
          have hni : ¬ (i : Int) < (i : Int) := by omega
          have hpt := og_put (kyN f ST i) (-1) HG.out (ky_ok HO.out ST i)
          have hno := gm_far (f := f) hodd i i (Nat.le_refl _) (by omega)
          rw [putE_full hno (Nat.le_refl _), putN_full hno (Nat.le_refl _), putM_full hno (Nat.le_refl _)] at hpt
          clear hno
          go_wp2_with (fail)
          refine hpt.mono ?_
          rintro e w5 ⟨rfl, v5, hg5, hm5⟩
          have HG5 : Hid (Og W1 w5 t v5 i i (max P i) (gmN f ST i)) := hg5
          have HH5 : Hid (Kb w5 t v5 B (.cells #[.int .u32 (((kyN f ST i)).s : Int), .int .u32 (((kyN f ST i)).d : Int), .int .u16 (((kyN f ST i)).p : Int), .int .u16 (((kyN f ST i)).q : Int), .int .u8 (((kyN f ST i)).r : Int)] 36)) := HH.out.moved hm5
          have HP5 : Hid (max P i ≤ i) := by obtain ⟨_, _, _, _, _, _, _, q1, q2, q3⟩ := hg5.a; exact q2
          clear hpt hg5 hm5 k0 k1 k2 k3 k4 HG HH
          obtain ⟨k0, k1, k2, k3, k4⟩ := blk5 HH5.out.1
          have hbd := boundsC t v5 i i (max P i) i (gmN f ST i) (kyN f ST i) w5 HG5.out.a (ky_ok HO.out ST i) HP5.out (by omega)
          go_wp2_with (fail)
          refine hbd.mono ?_
          rintro e w6 ⟨rfl, hb6⟩
          have HG6 : Hid (Og W1 w6 t v5 i i (max P i) (gmN f ST i)) := HG5.out.on hb6
          have HH6 : Hid (Kb w6 t v5 B (.cells #[.int .u32 (((kyN f ST i)).s : Int), .int .u32 (((kyN f ST i)).d : Int), .int .u16 (((kyN f ST i)).p : Int), .int .u16 (((kyN f ST i)).q : Int), .int .u8 (((kyN f ST i)).r : Int)] 36)) := HH5.out.on hb6
          clear hbd hb6 HG5 HH5 k0 k1 k2 k3 k4
          obtain ⟨k0, k1, k2, k3, k4⟩ := blk5 (blk_on HK1.out HG6.out.bel)
          go_upto_region 22 with (refine wpList_store_blk rfl 36 (.tmp 11) (.tmp 76) rfl B 0 #[.int .u32 (f.s : Int), .int .u32 (f.d : Int), .int .u16 (f.p : Int), .int .u16 (f.q : Int), .int .u8 (f.r : Int)] #[.int .u32 (f.s : Int), .int .u32 (f.d : Int), .int .u16 (f.p : Int), .int .u16 (f.q : Int), .int .u8 (f.r : Int)] rfl rfl 36 _ HH6.out.1 (Nat.le_of_ble_eq_true rfl) rfl (by kernel_rfl) rfl ?_; intro w7 hw7 how7)
          simp only [List.getElem_toArray, List.getElem_cons_succ, List.getElem_cons_zero, Act.put, List.setIfInBounds_toArray, List.set_cons_zero, List.set_cons_succ]
          have HG7 : Hid (Og W1 w7 t v5 i i (max P i) (gmN f ST i)) := HG6.out.cells how7 HH6.out.2.1 HH6.out.2.2 hBW
          have HH7 : Hid (Kb w7 t v5 B (.cells #[.int .u32 (((kyN f ST 0)).s : Int), .int .u32 (((kyN f ST 0)).d : Int), .int .u16 (((kyN f ST 0)).p : Int), .int .u16 (((kyN f ST 0)).q : Int), .int .u8 (((kyN f ST 0)).r : Int)] 36)) := by show Kb _ _ _ _ _; rw [ky_zero HO.out]; exact ⟨hw7, HH6.out.2⟩
          clear hw7 how7 HG6 HH6 k0 k1 k2 k3 k4
          go_wp2_with (fail)
          go_loopw [14] (fun vj wr => ∃ (j : Nat) (v : Value), j ≤ i ∧ vj = .int .i64 (j : Int) ∧ Hid (Og W1 wr t v i (cnN i s j) (max P i) (dmN f ST i s j)) ∧ Hid (Kb wr t v B (.cells #[.int .u32 (((kyN f ST j)).s : Int), .int .u32 (((kyN f ST j)).d : Int), .int .u16 (((kyN f ST j)).p : Int), .int .u16 (((kyN f ST j)).q : Int), .int .u8 (((kyN f ST j)).r : Int)] 36))) (fun vj _ => i - (intOf vj).toNat)
          case atStart => exact ⟨0, v5, Nat.zero_le _, rfl, by show Og _ _ _ _ _ _ _ _; rw [show cnN i s 0 = i by unfold cnN; simp]; exact HG7.out, HH7.out⟩
          case round =>
            clear HG7 HH7
            obtain ⟨j, v, hj, rfl, HG, HH⟩ := hrel
            obtain ⟨k0, k1, k2, k3, k4⟩ := blk5 HH.out.1
            by_cases hlt2 : j < i
            · have hlti : (j : Int) < (i : Int) := by omega
              have hget := og_get (kyN f ST j) HG.out (ky_ok HO.out ST j)
              have hin := dm_in (f := f) (st := ST) (n := i) (s := s) hodd (by omega) j j (by omega) hlt2 (.inl (Nat.le_refl _))
              have Hin : Hid (dmN f ST i s j (kyN f ST j) = some (j : Int)) := hin
              rw [hin] at hget
              have hadd : IntKind.u32.wrap (((kyN f ST j).d : Int) + (ST : Int)) = ((kyN f ST (j + 1)).d : Int) := by
                rw [IntKind.wrap_u32, ← ky_succ]; omega
              clear hin
              go_wp2_with (fail)
              refine hget.mono ?_
              rintro e w8 ⟨rfl, hb8⟩
              have HG8 : Hid (Og W1 w8 t v i (cnN i s j) (max P i) (dmN f ST i s j)) := HG.out.on hb8
              have HH8 : Hid (Kb w8 t v B (.cells #[.int .u32 (((kyN f ST j)).s : Int), .int .u32 (((kyN f ST j)).d : Int), .int .u16 (((kyN f ST j)).p : Int), .int .u16 (((kyN f ST j)).q : Int), .int .u8 (((kyN f ST j)).r : Int)] 36)) := HH.out.on hb8
              clear hget hb8 HG HH k0 k1 k2 k3 k4
              obtain ⟨k0, k1, k2, k3, k4⟩ := blk5 HH8.out.1
              have f1 := blk_free HH8.out.1 1
              simp only [Option.getD_some, Option.isSome_some]
              by_cases hjs : j = s
              · have HG9 : Hid (Og W1 (w8.setCell ⟨B, 1, none⟩ (.int .u32 ((kyN f ST (j + 1)).d : Int))) t v i (cnN i s (j + 1)) (max P i) (dmN f ST i s (j + 1))) := by
                  show Og _ _ _ _ _ _ _ _
                  rw [show cnN i s (j + 1) = cnN i s j by unfold cnN; rw [if_pos (by omega), if_neg (by omega)]; omega, show dmN f ST i s (j + 1) = dmN f ST i s j by rw [dmN]; exact if_pos hjs]
                  exact HG8.out.cells (only_setCell _ _ _ _) HH8.out.2.1 HH8.out.2.2 hBW
                have HH9 : Hid (Kb (w8.setCell ⟨B, 1, none⟩ (.int .u32 ((kyN f ST (j + 1)).d : Int))) t v B (.cells #[.int .u32 (((kyN f ST (j + 1))).s : Int), .int .u32 (((kyN f ST (j + 1))).d : Int), .int .u16 (((kyN f ST (j + 1))).p : Int), .int .u16 (((kyN f ST (j + 1))).q : Int), .int .u8 (((kyN f ST (j + 1))).r : Int)] 36)) := ⟨blk_set HH8.out.1 (j := 1) _, HH8.out.2⟩
                have hjs2 : (j : Int) = (s : Int) := by omega
                clear HG8 HH8 hjs
                go_wp2_with (fail)
                go_roundw
                case rel => exact ⟨j + 1, v, by omega, by go_num, HG9.out, HH9.out⟩
                case measure => simp [intOf]; omega
              · have hjs2 : ¬ (j : Int) = (s : Int) := by omega
                have hdel := og_del (kyN f ST j) HG8.out (ky_ok HO.out ST j)
                rw [delN_in Hin.out, Hin.out] at hdel
                simp only [Option.isSome_some] at hdel
                go_wp2_with (fail)
                refine hdel.mono ?_
                rintro e w9 ⟨rfl, hg9, hm9⟩
                have HG9 : Hid (Og W1 w9 t v i (cnN i s (j + 1)) (max P i) (dmN f ST i s (j + 1))) := by
                  show Og _ _ _ _ _ _ _ _
                  rw [show cnN i s (j + 1) = cnN i s j - 1 by unfold cnN; by_cases q : s < j; rw [if_pos (by omega), if_pos q]; omega; rw [if_neg (by omega), if_neg q]; omega, show dmN f ST i s (j + 1) = upd (dmN f ST i s j) (kyN f ST j) none by rw [dmN]; exact if_neg hjs]
                  exact hg9
                have HH9 : Hid (Kb w9 t v B (.cells #[.int .u32 (((kyN f ST j)).s : Int), .int .u32 (((kyN f ST j)).d : Int), .int .u16 (((kyN f ST j)).p : Int), .int .u16 (((kyN f ST j)).q : Int), .int .u8 (((kyN f ST j)).r : Int)] 36)) := HH8.out.moved hm9
                have HG10 : Hid (Og W1 (w9.setCell ⟨B, 1, none⟩ (.int .u32 ((kyN f ST (j + 1)).d : Int))) t v i (cnN i s (j + 1)) (max P i) (dmN f ST i s (j + 1))) := HG9.out.cells (only_setCell _ _ _ _) HH9.out.2.1 HH9.out.2.2 hBW
                have HH10 : Hid (Kb (w9.setCell ⟨B, 1, none⟩ (.int .u32 ((kyN f ST (j + 1)).d : Int))) t v B (.cells #[.int .u32 (((kyN f ST (j + 1))).s : Int), .int .u32 (((kyN f ST (j + 1))).d : Int), .int .u16 (((kyN f ST (j + 1))).p : Int), .int .u16 (((kyN f ST (j + 1))).q : Int), .int .u8 (((kyN f ST (j + 1))).r : Int)] 36)) := ⟨blk_set HH9.out.1 (j := 1) _, HH9.out.2⟩
                clear hdel hg9 hm9 HG8 HH8 k0 k1 k2 k3 k4 f1
                obtain ⟨k0, k1, k2, k3, k4⟩ := blk5 HH9.out.1
                have f1 := blk_free HH9.out.1 1
                clear HG9 HH9
                go_wp2_with (fail)
                go_roundw
                case rel => exact ⟨j + 1, v, by omega, by go_num, HG10.out, HH10.out⟩
                case measure => simp [intOf]; omega
            · obtain rfl : j = i := by omega
              have hnj : ¬ (j : Int) < (j : Int) := by omega
              clear k0 k1 k2 k3 k4
              obtain ⟨k0, k1, k2, k3, k4⟩ := blk5 (blk_on HK1.out HG.out.bel)
              go_upto_region 31 with (fail)
              have ek : ((f.d : Int) + (s : Int) * (ST : Int)) % 4294967296 = ((kyN f ST s).d : Int) := by
                show _ = (((f.d + s * ST) % 4294967296 : Nat) : Int)
                rw [Int.natCast_emod, Int.natCast_add, Int.natCast_mul]; rfl
              rw [ek]
              have hcn : cnN j s j = 1 := by unfold cnN; rw [if_pos hs1]; omega
              rw [hcn] at HG
              have b9 : Below wr.heap.size wr (wr.alloc (.cells #[.int .u32 (((kyN f ST s)).s : Int), .int .u32 (((kyN f ST s)).d : Int), .int .u16 (((kyN f ST s)).p : Int), .int .u16 (((kyN f ST s)).q : Int), .int .u8 (((kyN f ST s)).r : Int)] 36)) := (Below.refl _ _).alloc (Nat.le_refl _) _
              have HG9 : Hid (Og W1 (wr.alloc (.cells #[.int .u32 (((kyN f ST s)).s : Int), .int .u32 (((kyN f ST s)).d : Int), .int .u16 (((kyN f ST s)).p : Int), .int .u16 (((kyN f ST s)).q : Int), .int .u8 (((kyN f ST s)).r : Int)] 36)) t v j 1 (max P j) (dmN f ST j s j)) := HG.out.on b9
              have HK9 : Hid ((wr.alloc (.cells #[.int .u32 (((kyN f ST s)).s : Int), .int .u32 (((kyN f ST s)).d : Int), .int .u16 (((kyN f ST s)).p : Int), .int .u16 (((kyN f ST s)).q : Int), .int .u8 (((kyN f ST s)).r : Int)] 36)).heap[wr.heap.size]? = some (.cells #[.int .u32 (((kyN f ST s)).s : Int), .int .u32 (((kyN f ST s)).d : Int), .int .u16 (((kyN f ST s)).p : Int), .int .u16 (((kyN f ST s)).q : Int), .int .u8 (((kyN f ST s)).r : Int)] 36)) := blk_new wr _
              change Code.wp _ _ _ _ (wr.alloc (.cells #[.int .u32 (((kyN f ST s)).s : Int), .int .u32 (((kyN f ST s)).d : Int), .int .u16 (((kyN f ST s)).p : Int), .int .u16 (((kyN f ST s)).q : Int), .int .u8 (((kyN f ST s)).r : Int)] 36))
              clear ek hcn b9 HG HH k0 k1 k2 k3 k4
              generalize wr.alloc (.cells #[.int .u32 (((kyN f ST s)).s : Int), .int .u32 (((kyN f ST s)).d : Int), .int .u16 (((kyN f ST s)).p : Int), .int .u16 (((kyN f ST s)).q : Int), .int .u8 (((kyN f ST s)).r : Int)] 36) = w9 at *
              generalize wr.heap.size = B2 at *
              go_wp2_with (fail)
              refine (awakeC w9).mono ?_
              rintro e w10 ⟨rfl, hb10⟩
              have HG10 : Hid (Og W1 w10 t v j 1 (max P j) (dmN f ST j s j)) := HG9.out.on hb10
              have HK10 : Hid (w10.heap[B2]? = some (.cells #[.int .u32 (((kyN f ST s)).s : Int), .int .u32 (((kyN f ST s)).d : Int), .int .u16 (((kyN f ST s)).p : Int), .int .u16 (((kyN f ST s)).q : Int), .int .u8 (((kyN f ST s)).r : Int)] 36)) := blk_on HK9.out hb10
              clear hb10 HG9 HK9
              obtain ⟨k0, k1, k2, k3, k4⟩ := blk5 HK10.out
              have hbd : Calls Try.prog 17 #[.pointer (some ⟨t, 0, none⟩), .int .i64 1, .int .i64 (j : Int), .agg #[.int .u32 (((kyN f ST s)).s : Int), .int .u32 (((kyN f ST s)).d : Int), .int .u16 (((kyN f ST s)).p : Int), .int .u16 (((kyN f ST s)).q : Int), .int .u8 (((kyN f ST s)).r : Int)]] w10 fun e w' => e = .returned (.bool true) ∧ Below w10.heap.size w10 w' := boundsC t v j 1 (max P j) j (dmN f ST j s j) (kyN f ST s) w10 HG10.out.a (ky_ok HO.out ST s) HP5.out (by omega)
              go_wp2_with (fail)
              refine hbd.mono ?_
              rintro e w11 ⟨rfl, hb11⟩
              have HG11 : Hid (Og W1 w11 t v j 1 (max P j) (dmN f ST j s j)) := HG10.out.on hb11
              have HK11 : Hid (w11.heap[B2]? = some (.cells #[.int .u32 (((kyN f ST s)).s : Int), .int .u32 (((kyN f ST s)).d : Int), .int .u16 (((kyN f ST s)).p : Int), .int .u16 (((kyN f ST s)).q : Int), .int .u8 (((kyN f ST s)).r : Int)] 36)) := blk_on HK10.out hb11
              clear hbd hb11 HG10 HK10 k0 k1 k2 k3 k4
              obtain ⟨k0, k1, k2, k3, k4⟩ := blk5 HK11.out
              have b12 : Below w11.heap.size w11 (w11.alloc (.cells #[.int .u32 (((⟨kyN f ST s, (s : Int)⟩ : Ey)).k.s : Int), .int .u32 (((⟨kyN f ST s, (s : Int)⟩ : Ey)).k.d : Int), .int .u16 (((⟨kyN f ST s, (s : Int)⟩ : Ey)).k.p : Int), .int .u16 (((⟨kyN f ST s, (s : Int)⟩ : Ey)).k.q : Int), .int .u8 (((⟨kyN f ST s, (s : Int)⟩ : Ey)).k.r : Int), .int .i64 ((⟨kyN f ST s, (s : Int)⟩ : Ey)).v] 52)) := (Below.refl _ _).alloc (Nat.le_refl _) _
              have hall := allsC t v j 1 (max P j) (dmN f ST j s j) [⟨kyN f ST s, (s : Int)⟩] (.slice (some ⟨w11.heap.size, 0, none⟩) 1 1) 0 (w11.alloc (.cells #[.int .u32 (((⟨kyN f ST s, (s : Int)⟩ : Ey)).k.s : Int), .int .u32 (((⟨kyN f ST s, (s : Int)⟩ : Ey)).k.d : Int), .int .u16 (((⟨kyN f ST s, (s : Int)⟩ : Ey)).k.p : Int), .int .u16 (((⟨kyN f ST s, (s : Int)⟩ : Ey)).k.q : Int), .int .u8 (((⟨kyN f ST s, (s : Int)⟩ : Ey)).k.r : Int), .int .i64 ((⟨kyN f ST s, (s : Int)⟩ : Ey)).v] 52)) (HG11.out.a.on b12) (dm_tells HO.out hodd (by omega) hs1) (RowY.one w11 0 ⟨kyN f ST s, (s : Int)⟩ (Nat.zero_le _)).src (by simp) (by decide) (by decide)
              have HB12 : Hid (Below w.heap.size w (w11.alloc (.cells #[.int .u32 (((⟨kyN f ST s, (s : Int)⟩ : Ey)).k.s : Int), .int .u32 (((⟨kyN f ST s, (s : Int)⟩ : Ey)).k.d : Int), .int .u16 (((⟨kyN f ST s, (s : Int)⟩ : Ey)).k.p : Int), .int .u16 (((⟨kyN f ST s, (s : Int)⟩ : Ey)).k.q : Int), .int .u8 (((⟨kyN f ST s, (s : Int)⟩ : Ey)).k.r : Int), .int .i64 ((⟨kyN f ST s, (s : Int)⟩ : Ey)).v] 52))) := HB1.out.trans ((HG11.out.bel.trans (b12.mono HG11.out.bel.size)).mono HB1.out.size)
              clear b12 HG11 HK11
              go_wp2_with (fail)
              refine hall.mono ?_
              rintro e w13 ⟨rfl, hb13⟩
              have HB13 : Hid (Below w.heap.size w w13) := bel_of HB12.out hb13 HB12.out.size
              clear hall hb13 HB12
              go_wp2_with (fail)
              go_ret
              exact ⟨rfl, HB13.out⟩
  · rcases hEc with ⟨hm, hEe⟩ | ⟨hm, rfl⟩
    · go_upto_region 7 with (fail)
      rw [EN.out, ES.out]
      clear hn hm EN ES
      obtain ⟨ST, hST⟩ : ∃ ST, ST = st0 ||| 1 := ⟨_, rfl⟩
      have hodd : ST % 2 = 1 := by
        have h := Nat.testBit_or st0 1 0
        rw [show (1 : Nat).testBit 0 = true from rfl, Bool.or_true, Nat.testBit_zero, decide_eq_true_eq, ← hST] at h
        exact h
      have hSTl : ST < 4294967296 := by rw [hST]; exact Nat.or_lt_two_pow (n := 32) hst (by decide)
      have hor : bits .or .u32 (st0 : Int) 1 = (ST : Int) := by rw [hST]; exact u32_or_nat st0 1 hst (by decide)
      clear hST
      go_wp2_with (fail)
      refine (newC N W1 hN1 (by omega)).mono ?_
      rintro e w2 ⟨t, rfl, ho2⟩
      obtain ⟨v2, hog2⟩ := og_of ho2
      have HG2 : Hid (Og W1 w2 t v2 N 0 0 m0) := hog2
      clear ho2 hog2
      obtain ⟨k0, k1, k2, k3, k4⟩ := blk5 (blk_on HK1.out HG2.out.bel)
      go_upto_region 12 with (fail)
      have b3 : Below w2.heap.size w2 (w2.alloc (.cells #[.int .u32 (f.s : Int), .int .u32 (f.d : Int), .int .u16 (f.p : Int), .int .u16 (f.q : Int), .int .u8 (f.r : Int)] 36)) := (Below.refl _ _).alloc (Nat.le_refl _) _
      have HG3 : Hid (Og W1 (w2.alloc (.cells #[.int .u32 (f.s : Int), .int .u32 (f.d : Int), .int .u16 (f.p : Int), .int .u16 (f.q : Int), .int .u8 (f.r : Int)] 36)) t v2 N 0 0 m0) := HG2.out.on b3
      have HH3 : Hid (Kb (w2.alloc (.cells #[.int .u32 (f.s : Int), .int .u32 (f.d : Int), .int .u16 (f.p : Int), .int .u16 (f.q : Int), .int .u8 (f.r : Int)] 36)) t v2 w2.heap.size (.cells #[.int .u32 (((kyN f ST 0)).s : Int), .int .u32 (((kyN f ST 0)).d : Int), .int .u16 (((kyN f ST 0)).p : Int), .int .u16 (((kyN f ST 0)).q : Int), .int .u8 (((kyN f ST 0)).r : Int)] 36)) := by show Kb _ _ _ _ _; rw [ky_zero HO.out]; exact HG2.out.new b3 (Nat.le_refl _) (blk_new w2 _)
      have hBW : W1.heap.size ≤ w2.heap.size := HG2.out.bel.size
      clear b3 HG2 k0 k1 k2 k3 k4
      generalize w2.alloc (.cells #[.int .u32 (f.s : Int), .int .u32 (f.d : Int), .int .u16 (f.p : Int), .int .u16 (f.q : Int), .int .u8 (f.r : Int)] 36) = w3 at *
      generalize w2.heap.size = B at *
      go_wp2_with (fail)
      go_loopw [12] (fun vi wr => ∃ (i P : Nat) (v : Value), i ≤ N ∧ vi = .int .i64 (i : Int) ∧ Hid (Og W1 wr t v N i P (gmN f ST i)) ∧ Hid (Kb wr t v B (.cells #[.int .u32 (((kyN f ST i)).s : Int), .int .u32 (((kyN f ST i)).d : Int), .int .u16 (((kyN f ST i)).p : Int), .int .u16 (((kyN f ST i)).q : Int), .int .u8 (((kyN f ST i)).r : Int)] 36))) (fun vi _ => N - (intOf vi).toNat)
      case atStart => exact ⟨0, 0, v2, Nat.zero_le _, rfl, HG3.out, HH3.out⟩
      case round =>
        clear HG3 HH3
        obtain ⟨i, P, v, hi, rfl, HG, HH⟩ := hrel
        obtain ⟨k0, k1, k2, k3, k4⟩ := blk5 HH.out.1
        by_cases hlt : i < N
        · have hlti : (i : Int) < (N : Int) := by omega
          have hpt := og_put (kyN f ST i) (i : Int) HG.out (ky_ok HO.out ST i)
          have hno := gm_far (f := f) hodd i i (Nat.le_refl _) (by omega)
          rw [putE_no hno hlt, putN_no hno hlt, putM_no hno hlt] at hpt
          clear hno
          go_wp2_with (fail)
          refine hpt.mono ?_
          rintro e w5 ⟨rfl, v5, hg5, hm5⟩
          have HG5 : Hid (Og W1 w5 t v5 N (i + 1) (max P (i + 1)) (gmN f ST (i + 1))) := hg5
          have HH5 : Hid (Kb w5 t v5 B (.cells #[.int .u32 (((kyN f ST i)).s : Int), .int .u32 (((kyN f ST i)).d : Int), .int .u16 (((kyN f ST i)).p : Int), .int .u16 (((kyN f ST i)).q : Int), .int .u8 (((kyN f ST i)).r : Int)] 36)) := HH.out.moved hm5
          have hadd : IntKind.u32.wrap (((kyN f ST i).d : Int) + (ST : Int)) = ((kyN f ST (i + 1)).d : Int) := by
            rw [IntKind.wrap_u32, ← ky_succ]; omega
          have HG6 : Hid (Og W1 (w5.setCell ⟨B, 1, none⟩ (.int .u32 ((kyN f ST (i + 1)).d : Int))) t v5 N (i + 1) (max P (i + 1)) (gmN f ST (i + 1))) := HG5.out.cells (only_setCell _ _ _ _) HH5.out.2.1 HH5.out.2.2 hBW
          have HH6 : Hid (Kb (w5.setCell ⟨B, 1, none⟩ (.int .u32 ((kyN f ST (i + 1)).d : Int))) t v5 B (.cells #[.int .u32 (((kyN f ST (i + 1))).s : Int), .int .u32 (((kyN f ST (i + 1))).d : Int), .int .u16 (((kyN f ST (i + 1))).p : Int), .int .u16 (((kyN f ST (i + 1))).q : Int), .int .u8 (((kyN f ST (i + 1))).r : Int)] 36)) := ⟨blk_set HH5.out.1 (j := 1) _, HH5.out.2⟩
          clear hpt hg5 hm5 k0 k1 k2 k3 k4 HG HH
          obtain ⟨k0, k1, k2, k3, k4⟩ := blk5 HH5.out.1
          have f1 := blk_free HH5.out.1 1
          clear HG5 HH5
          go_wp2_with (fail)
          go_roundw
          case rel => exact ⟨i + 1, max P (i + 1), v5, by omega, by go_num, HG6.out, HH6.out⟩
          case measure => simp [intOf]; omega
        · obtain rfl : i = N := by omega
          have hni : ¬ (i : Int) < (i : Int) := by omega
          have hpt := og_put (kyN f ST i) (-1) HG.out (ky_ok HO.out ST i)
          have hno := gm_far (f := f) hodd i i (Nat.le_refl _) (by omega)
          rw [putE_full hno (Nat.le_refl _), putN_full hno (Nat.le_refl _), putM_full hno (Nat.le_refl _)] at hpt
          clear hno
          go_wp2_with (fail)
          refine hpt.mono ?_
          rintro e w5 ⟨rfl, v5, hg5, hm5⟩
          have HG5 : Hid (Og W1 w5 t v5 i i (max P i) (gmN f ST i)) := hg5
          have HH5 : Hid (Kb w5 t v5 B (.cells #[.int .u32 (((kyN f ST i)).s : Int), .int .u32 (((kyN f ST i)).d : Int), .int .u16 (((kyN f ST i)).p : Int), .int .u16 (((kyN f ST i)).q : Int), .int .u8 (((kyN f ST i)).r : Int)] 36)) := HH.out.moved hm5
          have HP5 : Hid (max P i ≤ i) := by obtain ⟨_, _, _, _, _, _, _, q1, q2, q3⟩ := hg5.a; exact q2
          clear hpt hg5 hm5 k0 k1 k2 k3 k4 HG HH
          obtain ⟨k0, k1, k2, k3, k4⟩ := blk5 HH5.out.1
          have hbd := boundsC t v5 i i (max P i) i (gmN f ST i) (kyN f ST i) w5 HG5.out.a (ky_ok HO.out ST i) HP5.out (by omega)
          go_wp2_with (fail)
          refine hbd.mono ?_
          rintro e w6 ⟨rfl, hb6⟩
          have HG6 : Hid (Og W1 w6 t v5 i i (max P i) (gmN f ST i)) := HG5.out.on hb6
          have HH6 : Hid (Kb w6 t v5 B (.cells #[.int .u32 (((kyN f ST i)).s : Int), .int .u32 (((kyN f ST i)).d : Int), .int .u16 (((kyN f ST i)).p : Int), .int .u16 (((kyN f ST i)).q : Int), .int .u8 (((kyN f ST i)).r : Int)] 36)) := HH5.out.on hb6
          clear hbd hb6 HG5 HH5 k0 k1 k2 k3 k4
          obtain ⟨k0, k1, k2, k3, k4⟩ := blk5 (blk_on HK1.out HG6.out.bel)
          go_upto_region 22 with (refine wpList_store_blk rfl 36 (.tmp 11) (.tmp 76) rfl B 0 #[.int .u32 (f.s : Int), .int .u32 (f.d : Int), .int .u16 (f.p : Int), .int .u16 (f.q : Int), .int .u8 (f.r : Int)] #[.int .u32 (f.s : Int), .int .u32 (f.d : Int), .int .u16 (f.p : Int), .int .u16 (f.q : Int), .int .u8 (f.r : Int)] rfl rfl 36 _ HH6.out.1 (Nat.le_of_ble_eq_true rfl) rfl (by kernel_rfl) rfl ?_; intro w7 hw7 how7)
          simp only [List.getElem_toArray, List.getElem_cons_succ, List.getElem_cons_zero, Act.put, List.setIfInBounds_toArray, List.set_cons_zero, List.set_cons_succ]
          have HG7 : Hid (Og W1 w7 t v5 i i (max P i) (gmN f ST i)) := HG6.out.cells how7 HH6.out.2.1 HH6.out.2.2 hBW
          have HH7 : Hid (Kb w7 t v5 B (.cells #[.int .u32 (((kyN f ST 0)).s : Int), .int .u32 (((kyN f ST 0)).d : Int), .int .u16 (((kyN f ST 0)).p : Int), .int .u16 (((kyN f ST 0)).q : Int), .int .u8 (((kyN f ST 0)).r : Int)] 36)) := by show Kb _ _ _ _ _; rw [ky_zero HO.out]; exact ⟨hw7, HH6.out.2⟩
          clear hw7 how7 HG6 HH6 k0 k1 k2 k3 k4
          go_wp2_with (fail)
          go_loopw [14] (fun vj wr => ∃ (j : Nat) (v : Value), j ≤ i ∧ vj = .int .i64 (j : Int) ∧ Hid (Og W1 wr t v i (cnN i s j) (max P i) (dmN f ST i s j)) ∧ Hid (Kb wr t v B (.cells #[.int .u32 (((kyN f ST j)).s : Int), .int .u32 (((kyN f ST j)).d : Int), .int .u16 (((kyN f ST j)).p : Int), .int .u16 (((kyN f ST j)).q : Int), .int .u8 (((kyN f ST j)).r : Int)] 36))) (fun vj _ => i - (intOf vj).toNat)
          case atStart => exact ⟨0, v5, Nat.zero_le _, rfl, by show Og _ _ _ _ _ _ _ _; rw [show cnN i s 0 = i by unfold cnN; simp]; exact HG7.out, HH7.out⟩
          case round =>
            clear HG7 HH7
            obtain ⟨j, v, hj, rfl, HG, HH⟩ := hrel
            obtain ⟨k0, k1, k2, k3, k4⟩ := blk5 HH.out.1
            by_cases hlt2 : j < i
            · have hlti : (j : Int) < (i : Int) := by omega
              have hget := og_get (kyN f ST j) HG.out (ky_ok HO.out ST j)
              have hin := dm_in (f := f) (st := ST) (n := i) (s := s) hodd (by omega) j j (by omega) hlt2 (.inl (Nat.le_refl _))
              have Hin : Hid (dmN f ST i s j (kyN f ST j) = some (j : Int)) := hin
              rw [hin] at hget
              have hadd : IntKind.u32.wrap (((kyN f ST j).d : Int) + (ST : Int)) = ((kyN f ST (j + 1)).d : Int) := by
                rw [IntKind.wrap_u32, ← ky_succ]; omega
              clear hin
              go_wp2_with (fail)
              refine hget.mono ?_
              rintro e w8 ⟨rfl, hb8⟩
              have HG8 : Hid (Og W1 w8 t v i (cnN i s j) (max P i) (dmN f ST i s j)) := HG.out.on hb8
              have HH8 : Hid (Kb w8 t v B (.cells #[.int .u32 (((kyN f ST j)).s : Int), .int .u32 (((kyN f ST j)).d : Int), .int .u16 (((kyN f ST j)).p : Int), .int .u16 (((kyN f ST j)).q : Int), .int .u8 (((kyN f ST j)).r : Int)] 36)) := HH.out.on hb8
              clear hget hb8 HG HH k0 k1 k2 k3 k4
              obtain ⟨k0, k1, k2, k3, k4⟩ := blk5 HH8.out.1
              have f1 := blk_free HH8.out.1 1
              simp only [Option.getD_some, Option.isSome_some]
              by_cases hjs : j = s
              · have HG9 : Hid (Og W1 (w8.setCell ⟨B, 1, none⟩ (.int .u32 ((kyN f ST (j + 1)).d : Int))) t v i (cnN i s (j + 1)) (max P i) (dmN f ST i s (j + 1))) := by
                  show Og _ _ _ _ _ _ _ _
                  rw [show cnN i s (j + 1) = cnN i s j by unfold cnN; rw [if_pos (by omega), if_neg (by omega)]; omega, show dmN f ST i s (j + 1) = dmN f ST i s j by rw [dmN]; exact if_pos hjs]
                  exact HG8.out.cells (only_setCell _ _ _ _) HH8.out.2.1 HH8.out.2.2 hBW
                have HH9 : Hid (Kb (w8.setCell ⟨B, 1, none⟩ (.int .u32 ((kyN f ST (j + 1)).d : Int))) t v B (.cells #[.int .u32 (((kyN f ST (j + 1))).s : Int), .int .u32 (((kyN f ST (j + 1))).d : Int), .int .u16 (((kyN f ST (j + 1))).p : Int), .int .u16 (((kyN f ST (j + 1))).q : Int), .int .u8 (((kyN f ST (j + 1))).r : Int)] 36)) := ⟨blk_set HH8.out.1 (j := 1) _, HH8.out.2⟩
                have hjs2 : (j : Int) = (s : Int) := by omega
                clear HG8 HH8 hjs
                go_wp2_with (fail)
                go_roundw
                case rel => exact ⟨j + 1, v, by omega, by go_num, HG9.out, HH9.out⟩
                case measure => simp [intOf]; omega
              · have hjs2 : ¬ (j : Int) = (s : Int) := by omega
                have hdel := og_del (kyN f ST j) HG8.out (ky_ok HO.out ST j)
                rw [delN_in Hin.out, Hin.out] at hdel
                simp only [Option.isSome_some] at hdel
                go_wp2_with (fail)
                refine hdel.mono ?_
                rintro e w9 ⟨rfl, hg9, hm9⟩
                have HG9 : Hid (Og W1 w9 t v i (cnN i s (j + 1)) (max P i) (dmN f ST i s (j + 1))) := by
                  show Og _ _ _ _ _ _ _ _
                  rw [show cnN i s (j + 1) = cnN i s j - 1 by unfold cnN; by_cases q : s < j; rw [if_pos (by omega), if_pos q]; omega; rw [if_neg (by omega), if_neg q]; omega, show dmN f ST i s (j + 1) = upd (dmN f ST i s j) (kyN f ST j) none by rw [dmN]; exact if_neg hjs]
                  exact hg9
                have HH9 : Hid (Kb w9 t v B (.cells #[.int .u32 (((kyN f ST j)).s : Int), .int .u32 (((kyN f ST j)).d : Int), .int .u16 (((kyN f ST j)).p : Int), .int .u16 (((kyN f ST j)).q : Int), .int .u8 (((kyN f ST j)).r : Int)] 36)) := HH8.out.moved hm9
                have HG10 : Hid (Og W1 (w9.setCell ⟨B, 1, none⟩ (.int .u32 ((kyN f ST (j + 1)).d : Int))) t v i (cnN i s (j + 1)) (max P i) (dmN f ST i s (j + 1))) := HG9.out.cells (only_setCell _ _ _ _) HH9.out.2.1 HH9.out.2.2 hBW
                have HH10 : Hid (Kb (w9.setCell ⟨B, 1, none⟩ (.int .u32 ((kyN f ST (j + 1)).d : Int))) t v B (.cells #[.int .u32 (((kyN f ST (j + 1))).s : Int), .int .u32 (((kyN f ST (j + 1))).d : Int), .int .u16 (((kyN f ST (j + 1))).p : Int), .int .u16 (((kyN f ST (j + 1))).q : Int), .int .u8 (((kyN f ST (j + 1))).r : Int)] 36)) := ⟨blk_set HH9.out.1 (j := 1) _, HH9.out.2⟩
                clear hdel hg9 hm9 HG8 HH8 k0 k1 k2 k3 k4 f1
                obtain ⟨k0, k1, k2, k3, k4⟩ := blk5 HH9.out.1
                have f1 := blk_free HH9.out.1 1
                clear HG9 HH9
                go_wp2_with (fail)
                go_roundw
                case rel => exact ⟨j + 1, v, by omega, by go_num, HG10.out, HH10.out⟩
                case measure => simp [intOf]; omega
            · obtain rfl : j = i := by omega
              have hnj : ¬ (j : Int) < (j : Int) := by omega
              clear k0 k1 k2 k3 k4
              obtain ⟨k0, k1, k2, k3, k4⟩ := blk5 (blk_on HK1.out HG.out.bel)
              go_upto_region 31 with (fail)
              have ek : ((f.d : Int) + (s : Int) * (ST : Int)) % 4294967296 = ((kyN f ST s).d : Int) := by
                show _ = (((f.d + s * ST) % 4294967296 : Nat) : Int)
                rw [Int.natCast_emod, Int.natCast_add, Int.natCast_mul]; rfl
              rw [ek]
              have hcn : cnN j s j = 1 := by unfold cnN; rw [if_pos hs1]; omega
              rw [hcn] at HG
              have b9 : Below wr.heap.size wr (wr.alloc (.cells #[.int .u32 (((kyN f ST s)).s : Int), .int .u32 (((kyN f ST s)).d : Int), .int .u16 (((kyN f ST s)).p : Int), .int .u16 (((kyN f ST s)).q : Int), .int .u8 (((kyN f ST s)).r : Int)] 36)) := (Below.refl _ _).alloc (Nat.le_refl _) _
              have HG9 : Hid (Og W1 (wr.alloc (.cells #[.int .u32 (((kyN f ST s)).s : Int), .int .u32 (((kyN f ST s)).d : Int), .int .u16 (((kyN f ST s)).p : Int), .int .u16 (((kyN f ST s)).q : Int), .int .u8 (((kyN f ST s)).r : Int)] 36)) t v j 1 (max P j) (dmN f ST j s j)) := HG.out.on b9
              have HK9 : Hid ((wr.alloc (.cells #[.int .u32 (((kyN f ST s)).s : Int), .int .u32 (((kyN f ST s)).d : Int), .int .u16 (((kyN f ST s)).p : Int), .int .u16 (((kyN f ST s)).q : Int), .int .u8 (((kyN f ST s)).r : Int)] 36)).heap[wr.heap.size]? = some (.cells #[.int .u32 (((kyN f ST s)).s : Int), .int .u32 (((kyN f ST s)).d : Int), .int .u16 (((kyN f ST s)).p : Int), .int .u16 (((kyN f ST s)).q : Int), .int .u8 (((kyN f ST s)).r : Int)] 36)) := blk_new wr _
              change Code.wp _ _ _ _ (wr.alloc (.cells #[.int .u32 (((kyN f ST s)).s : Int), .int .u32 (((kyN f ST s)).d : Int), .int .u16 (((kyN f ST s)).p : Int), .int .u16 (((kyN f ST s)).q : Int), .int .u8 (((kyN f ST s)).r : Int)] 36))
              clear ek hcn b9 HG HH k0 k1 k2 k3 k4
              generalize wr.alloc (.cells #[.int .u32 (((kyN f ST s)).s : Int), .int .u32 (((kyN f ST s)).d : Int), .int .u16 (((kyN f ST s)).p : Int), .int .u16 (((kyN f ST s)).q : Int), .int .u8 (((kyN f ST s)).r : Int)] 36) = w9 at *
              generalize wr.heap.size = B2 at *
              go_wp2_with (fail)
              refine (awakeC w9).mono ?_
              rintro e w10 ⟨rfl, hb10⟩
              have HG10 : Hid (Og W1 w10 t v j 1 (max P j) (dmN f ST j s j)) := HG9.out.on hb10
              have HK10 : Hid (w10.heap[B2]? = some (.cells #[.int .u32 (((kyN f ST s)).s : Int), .int .u32 (((kyN f ST s)).d : Int), .int .u16 (((kyN f ST s)).p : Int), .int .u16 (((kyN f ST s)).q : Int), .int .u8 (((kyN f ST s)).r : Int)] 36)) := blk_on HK9.out hb10
              clear hb10 HG9 HK9
              obtain ⟨k0, k1, k2, k3, k4⟩ := blk5 HK10.out
              have hbd : Calls Try.prog 17 #[.pointer (some ⟨t, 0, none⟩), .int .i64 1, .int .i64 (j : Int), .agg #[.int .u32 (((kyN f ST s)).s : Int), .int .u32 (((kyN f ST s)).d : Int), .int .u16 (((kyN f ST s)).p : Int), .int .u16 (((kyN f ST s)).q : Int), .int .u8 (((kyN f ST s)).r : Int)]] w10 fun e w' => e = .returned (.bool true) ∧ Below w10.heap.size w10 w' := boundsC t v j 1 (max P j) j (dmN f ST j s j) (kyN f ST s) w10 HG10.out.a (ky_ok HO.out ST s) HP5.out (by omega)
              go_wp2_with (fail)
              refine hbd.mono ?_
              rintro e w11 ⟨rfl, hb11⟩
              have HG11 : Hid (Og W1 w11 t v j 1 (max P j) (dmN f ST j s j)) := HG10.out.on hb11
              have HK11 : Hid (w11.heap[B2]? = some (.cells #[.int .u32 (((kyN f ST s)).s : Int), .int .u32 (((kyN f ST s)).d : Int), .int .u16 (((kyN f ST s)).p : Int), .int .u16 (((kyN f ST s)).q : Int), .int .u8 (((kyN f ST s)).r : Int)] 36)) := blk_on HK10.out hb11
              clear hbd hb11 HG10 HK10 k0 k1 k2 k3 k4
              obtain ⟨k0, k1, k2, k3, k4⟩ := blk5 HK11.out
              have b12 : Below w11.heap.size w11 (w11.alloc (.cells #[.int .u32 (((⟨kyN f ST s, (s : Int)⟩ : Ey)).k.s : Int), .int .u32 (((⟨kyN f ST s, (s : Int)⟩ : Ey)).k.d : Int), .int .u16 (((⟨kyN f ST s, (s : Int)⟩ : Ey)).k.p : Int), .int .u16 (((⟨kyN f ST s, (s : Int)⟩ : Ey)).k.q : Int), .int .u8 (((⟨kyN f ST s, (s : Int)⟩ : Ey)).k.r : Int), .int .i64 ((⟨kyN f ST s, (s : Int)⟩ : Ey)).v] 52)) := (Below.refl _ _).alloc (Nat.le_refl _) _
              have hall := allsC t v j 1 (max P j) (dmN f ST j s j) [⟨kyN f ST s, (s : Int)⟩] (.slice (some ⟨w11.heap.size, 0, none⟩) 1 1) 0 (w11.alloc (.cells #[.int .u32 (((⟨kyN f ST s, (s : Int)⟩ : Ey)).k.s : Int), .int .u32 (((⟨kyN f ST s, (s : Int)⟩ : Ey)).k.d : Int), .int .u16 (((⟨kyN f ST s, (s : Int)⟩ : Ey)).k.p : Int), .int .u16 (((⟨kyN f ST s, (s : Int)⟩ : Ey)).k.q : Int), .int .u8 (((⟨kyN f ST s, (s : Int)⟩ : Ey)).k.r : Int), .int .i64 ((⟨kyN f ST s, (s : Int)⟩ : Ey)).v] 52)) (HG11.out.a.on b12) (dm_tells HO.out hodd (by omega) hs1) (RowY.one w11 0 ⟨kyN f ST s, (s : Int)⟩ (Nat.zero_le _)).src (by simp) (by decide) (by decide)
              have HB12 : Hid (Below w.heap.size w (w11.alloc (.cells #[.int .u32 (((⟨kyN f ST s, (s : Int)⟩ : Ey)).k.s : Int), .int .u32 (((⟨kyN f ST s, (s : Int)⟩ : Ey)).k.d : Int), .int .u16 (((⟨kyN f ST s, (s : Int)⟩ : Ey)).k.p : Int), .int .u16 (((⟨kyN f ST s, (s : Int)⟩ : Ey)).k.q : Int), .int .u8 (((⟨kyN f ST s, (s : Int)⟩ : Ey)).k.r : Int), .int .i64 ((⟨kyN f ST s, (s : Int)⟩ : Ey)).v] 52))) := HB1.out.trans ((HG11.out.bel.trans (b12.mono HG11.out.bel.size)).mono HB1.out.size)
              clear b12 HG11 HK11
              go_wp2_with (fail)
              refine hall.mono ?_
              rintro e w13 ⟨rfl, hb13⟩
              have HB13 : Hid (Below w.heap.size w w13) := bel_of HB12.out hb13 HB12.out.size
              clear hall hb13 HB12
              go_wp2_with (fail)
              go_ret
              exact ⟨rfl, HB13.out⟩
    · go_upto_region 7 with (fail)
      rw [EN.out, ES.out]
      clear hn hm EN ES
      obtain ⟨ST, hST⟩ : ∃ ST, ST = st0 ||| 1 := ⟨_, rfl⟩
      have hodd : ST % 2 = 1 := by
        have h := Nat.testBit_or st0 1 0
        rw [show (1 : Nat).testBit 0 = true from rfl, Bool.or_true, Nat.testBit_zero, decide_eq_true_eq, ← hST] at h
        exact h
      have hSTl : ST < 4294967296 := by rw [hST]; exact Nat.or_lt_two_pow (n := 32) hst (by decide)
      have hor : bits .or .u32 (st0 : Int) 1 = (ST : Int) := by rw [hST]; exact u32_or_nat st0 1 hst (by decide)
      clear hST
      go_wp2_with (fail)
      refine (newC N W1 hN1 (by omega)).mono ?_
      rintro e w2 ⟨t, rfl, ho2⟩
      obtain ⟨v2, hog2⟩ := og_of ho2
      have HG2 : Hid (Og W1 w2 t v2 N 0 0 m0) := hog2
      clear ho2 hog2
      obtain ⟨k0, k1, k2, k3, k4⟩ := blk5 (blk_on HK1.out HG2.out.bel)
      go_upto_region 12 with (fail)
      have b3 : Below w2.heap.size w2 (w2.alloc (.cells #[.int .u32 (f.s : Int), .int .u32 (f.d : Int), .int .u16 (f.p : Int), .int .u16 (f.q : Int), .int .u8 (f.r : Int)] 36)) := (Below.refl _ _).alloc (Nat.le_refl _) _
      have HG3 : Hid (Og W1 (w2.alloc (.cells #[.int .u32 (f.s : Int), .int .u32 (f.d : Int), .int .u16 (f.p : Int), .int .u16 (f.q : Int), .int .u8 (f.r : Int)] 36)) t v2 N 0 0 m0) := HG2.out.on b3
      have HH3 : Hid (Kb (w2.alloc (.cells #[.int .u32 (f.s : Int), .int .u32 (f.d : Int), .int .u16 (f.p : Int), .int .u16 (f.q : Int), .int .u8 (f.r : Int)] 36)) t v2 w2.heap.size (.cells #[.int .u32 (((kyN f ST 0)).s : Int), .int .u32 (((kyN f ST 0)).d : Int), .int .u16 (((kyN f ST 0)).p : Int), .int .u16 (((kyN f ST 0)).q : Int), .int .u8 (((kyN f ST 0)).r : Int)] 36)) := by show Kb _ _ _ _ _; rw [ky_zero HO.out]; exact HG2.out.new b3 (Nat.le_refl _) (blk_new w2 _)
      have hBW : W1.heap.size ≤ w2.heap.size := HG2.out.bel.size
      clear b3 HG2 k0 k1 k2 k3 k4
      generalize w2.alloc (.cells #[.int .u32 (f.s : Int), .int .u32 (f.d : Int), .int .u16 (f.p : Int), .int .u16 (f.q : Int), .int .u8 (f.r : Int)] 36) = w3 at *
      generalize w2.heap.size = B at *
      go_wp2_with (fail)
      go_loopw [12] (fun vi wr => ∃ (i P : Nat) (v : Value), i ≤ N ∧ vi = .int .i64 (i : Int) ∧ Hid (Og W1 wr t v N i P (gmN f ST i)) ∧ Hid (Kb wr t v B (.cells #[.int .u32 (((kyN f ST i)).s : Int), .int .u32 (((kyN f ST i)).d : Int), .int .u16 (((kyN f ST i)).p : Int), .int .u16 (((kyN f ST i)).q : Int), .int .u8 (((kyN f ST i)).r : Int)] 36))) (fun vi _ => N - (intOf vi).toNat)
      case atStart => exact ⟨0, 0, v2, Nat.zero_le _, rfl, HG3.out, HH3.out⟩
      case round =>
        clear HG3 HH3
        obtain ⟨i, P, v, hi, rfl, HG, HH⟩ := hrel
        obtain ⟨k0, k1, k2, k3, k4⟩ := blk5 HH.out.1
        by_cases hlt : i < N
        · have hlti : (i : Int) < (N : Int) := by omega
          have hpt := og_put (kyN f ST i) (i : Int) HG.out (ky_ok HO.out ST i)
          have hno := gm_far (f := f) hodd i i (Nat.le_refl _) (by omega)
          rw [putE_no hno hlt, putN_no hno hlt, putM_no hno hlt] at hpt
          clear hno
          go_wp2_with (fail)
          refine hpt.mono ?_
          rintro e w5 ⟨rfl, v5, hg5, hm5⟩
          have HG5 : Hid (Og W1 w5 t v5 N (i + 1) (max P (i + 1)) (gmN f ST (i + 1))) := hg5
          have HH5 : Hid (Kb w5 t v5 B (.cells #[.int .u32 (((kyN f ST i)).s : Int), .int .u32 (((kyN f ST i)).d : Int), .int .u16 (((kyN f ST i)).p : Int), .int .u16 (((kyN f ST i)).q : Int), .int .u8 (((kyN f ST i)).r : Int)] 36)) := HH.out.moved hm5
          have hadd : IntKind.u32.wrap (((kyN f ST i).d : Int) + (ST : Int)) = ((kyN f ST (i + 1)).d : Int) := by
            rw [IntKind.wrap_u32, ← ky_succ]; omega
          have HG6 : Hid (Og W1 (w5.setCell ⟨B, 1, none⟩ (.int .u32 ((kyN f ST (i + 1)).d : Int))) t v5 N (i + 1) (max P (i + 1)) (gmN f ST (i + 1))) := HG5.out.cells (only_setCell _ _ _ _) HH5.out.2.1 HH5.out.2.2 hBW
          have HH6 : Hid (Kb (w5.setCell ⟨B, 1, none⟩ (.int .u32 ((kyN f ST (i + 1)).d : Int))) t v5 B (.cells #[.int .u32 (((kyN f ST (i + 1))).s : Int), .int .u32 (((kyN f ST (i + 1))).d : Int), .int .u16 (((kyN f ST (i + 1))).p : Int), .int .u16 (((kyN f ST (i + 1))).q : Int), .int .u8 (((kyN f ST (i + 1))).r : Int)] 36)) := ⟨blk_set HH5.out.1 (j := 1) _, HH5.out.2⟩
          clear hpt hg5 hm5 k0 k1 k2 k3 k4 HG HH
          obtain ⟨k0, k1, k2, k3, k4⟩ := blk5 HH5.out.1
          have f1 := blk_free HH5.out.1 1
          clear HG5 HH5
          go_wp2_with (fail)
          go_roundw
          case rel => exact ⟨i + 1, max P (i + 1), v5, by omega, by go_num, HG6.out, HH6.out⟩
          case measure => simp [intOf]; omega
        · obtain rfl : i = N := by omega
          have hni : ¬ (i : Int) < (i : Int) := by omega
          have hpt := og_put (kyN f ST i) (-1) HG.out (ky_ok HO.out ST i)
          have hno := gm_far (f := f) hodd i i (Nat.le_refl _) (by omega)
          rw [putE_full hno (Nat.le_refl _), putN_full hno (Nat.le_refl _), putM_full hno (Nat.le_refl _)] at hpt
          clear hno
          go_wp2_with (fail)
          refine hpt.mono ?_
          rintro e w5 ⟨rfl, v5, hg5, hm5⟩
          have HG5 : Hid (Og W1 w5 t v5 i i (max P i) (gmN f ST i)) := hg5
          have HH5 : Hid (Kb w5 t v5 B (.cells #[.int .u32 (((kyN f ST i)).s : Int), .int .u32 (((kyN f ST i)).d : Int), .int .u16 (((kyN f ST i)).p : Int), .int .u16 (((kyN f ST i)).q : Int), .int .u8 (((kyN f ST i)).r : Int)] 36)) := HH.out.moved hm5
          have HP5 : Hid (max P i ≤ i) := by obtain ⟨_, _, _, _, _, _, _, q1, q2, q3⟩ := hg5.a; exact q2
          clear hpt hg5 hm5 k0 k1 k2 k3 k4 HG HH
          obtain ⟨k0, k1, k2, k3, k4⟩ := blk5 HH5.out.1
          have hbd := boundsC t v5 i i (max P i) i (gmN f ST i) (kyN f ST i) w5 HG5.out.a (ky_ok HO.out ST i) HP5.out (by omega)
          go_wp2_with (fail)
          refine hbd.mono ?_
          rintro e w6 ⟨rfl, hb6⟩
          have HG6 : Hid (Og W1 w6 t v5 i i (max P i) (gmN f ST i)) := HG5.out.on hb6
          have HH6 : Hid (Kb w6 t v5 B (.cells #[.int .u32 (((kyN f ST i)).s : Int), .int .u32 (((kyN f ST i)).d : Int), .int .u16 (((kyN f ST i)).p : Int), .int .u16 (((kyN f ST i)).q : Int), .int .u8 (((kyN f ST i)).r : Int)] 36)) := HH5.out.on hb6
          clear hbd hb6 HG5 HH5 k0 k1 k2 k3 k4
          obtain ⟨k0, k1, k2, k3, k4⟩ := blk5 (blk_on HK1.out HG6.out.bel)
          go_upto_region 22 with (refine wpList_store_blk rfl 36 (.tmp 11) (.tmp 76) rfl B 0 #[.int .u32 (f.s : Int), .int .u32 (f.d : Int), .int .u16 (f.p : Int), .int .u16 (f.q : Int), .int .u8 (f.r : Int)] #[.int .u32 (f.s : Int), .int .u32 (f.d : Int), .int .u16 (f.p : Int), .int .u16 (f.q : Int), .int .u8 (f.r : Int)] rfl rfl 36 _ HH6.out.1 (Nat.le_of_ble_eq_true rfl) rfl (by kernel_rfl) rfl ?_; intro w7 hw7 how7)
          simp only [List.getElem_toArray, List.getElem_cons_succ, List.getElem_cons_zero, Act.put, List.setIfInBounds_toArray, List.set_cons_zero, List.set_cons_succ]
          have HG7 : Hid (Og W1 w7 t v5 i i (max P i) (gmN f ST i)) := HG6.out.cells how7 HH6.out.2.1 HH6.out.2.2 hBW
          have HH7 : Hid (Kb w7 t v5 B (.cells #[.int .u32 (((kyN f ST 0)).s : Int), .int .u32 (((kyN f ST 0)).d : Int), .int .u16 (((kyN f ST 0)).p : Int), .int .u16 (((kyN f ST 0)).q : Int), .int .u8 (((kyN f ST 0)).r : Int)] 36)) := by show Kb _ _ _ _ _; rw [ky_zero HO.out]; exact ⟨hw7, HH6.out.2⟩
          clear hw7 how7 HG6 HH6 k0 k1 k2 k3 k4
          go_wp2_with (fail)
          go_loopw [14] (fun vj wr => ∃ (j : Nat) (v : Value), j ≤ i ∧ vj = .int .i64 (j : Int) ∧ Hid (Og W1 wr t v i (cnN i s j) (max P i) (dmN f ST i s j)) ∧ Hid (Kb wr t v B (.cells #[.int .u32 (((kyN f ST j)).s : Int), .int .u32 (((kyN f ST j)).d : Int), .int .u16 (((kyN f ST j)).p : Int), .int .u16 (((kyN f ST j)).q : Int), .int .u8 (((kyN f ST j)).r : Int)] 36))) (fun vj _ => i - (intOf vj).toNat)
          case atStart => exact ⟨0, v5, Nat.zero_le _, rfl, by show Og _ _ _ _ _ _ _ _; rw [show cnN i s 0 = i by unfold cnN; simp]; exact HG7.out, HH7.out⟩
          case round =>
            clear HG7 HH7
            obtain ⟨j, v, hj, rfl, HG, HH⟩ := hrel
            obtain ⟨k0, k1, k2, k3, k4⟩ := blk5 HH.out.1
            by_cases hlt2 : j < i
            · have hlti : (j : Int) < (i : Int) := by omega
              have hget := og_get (kyN f ST j) HG.out (ky_ok HO.out ST j)
              have hin := dm_in (f := f) (st := ST) (n := i) (s := s) hodd (by omega) j j (by omega) hlt2 (.inl (Nat.le_refl _))
              have Hin : Hid (dmN f ST i s j (kyN f ST j) = some (j : Int)) := hin
              rw [hin] at hget
              have hadd : IntKind.u32.wrap (((kyN f ST j).d : Int) + (ST : Int)) = ((kyN f ST (j + 1)).d : Int) := by
                rw [IntKind.wrap_u32, ← ky_succ]; omega
              clear hin
              go_wp2_with (fail)
              refine hget.mono ?_
              rintro e w8 ⟨rfl, hb8⟩
              have HG8 : Hid (Og W1 w8 t v i (cnN i s j) (max P i) (dmN f ST i s j)) := HG.out.on hb8
              have HH8 : Hid (Kb w8 t v B (.cells #[.int .u32 (((kyN f ST j)).s : Int), .int .u32 (((kyN f ST j)).d : Int), .int .u16 (((kyN f ST j)).p : Int), .int .u16 (((kyN f ST j)).q : Int), .int .u8 (((kyN f ST j)).r : Int)] 36)) := HH.out.on hb8
              clear hget hb8 HG HH k0 k1 k2 k3 k4
              obtain ⟨k0, k1, k2, k3, k4⟩ := blk5 HH8.out.1
              have f1 := blk_free HH8.out.1 1
              simp only [Option.getD_some, Option.isSome_some]
              by_cases hjs : j = s
              · have HG9 : Hid (Og W1 (w8.setCell ⟨B, 1, none⟩ (.int .u32 ((kyN f ST (j + 1)).d : Int))) t v i (cnN i s (j + 1)) (max P i) (dmN f ST i s (j + 1))) := by
                  show Og _ _ _ _ _ _ _ _
                  rw [show cnN i s (j + 1) = cnN i s j by unfold cnN; rw [if_pos (by omega), if_neg (by omega)]; omega, show dmN f ST i s (j + 1) = dmN f ST i s j by rw [dmN]; exact if_pos hjs]
                  exact HG8.out.cells (only_setCell _ _ _ _) HH8.out.2.1 HH8.out.2.2 hBW
                have HH9 : Hid (Kb (w8.setCell ⟨B, 1, none⟩ (.int .u32 ((kyN f ST (j + 1)).d : Int))) t v B (.cells #[.int .u32 (((kyN f ST (j + 1))).s : Int), .int .u32 (((kyN f ST (j + 1))).d : Int), .int .u16 (((kyN f ST (j + 1))).p : Int), .int .u16 (((kyN f ST (j + 1))).q : Int), .int .u8 (((kyN f ST (j + 1))).r : Int)] 36)) := ⟨blk_set HH8.out.1 (j := 1) _, HH8.out.2⟩
                have hjs2 : (j : Int) = (s : Int) := by omega
                clear HG8 HH8 hjs
                go_wp2_with (fail)
                go_roundw
                case rel => exact ⟨j + 1, v, by omega, by go_num, HG9.out, HH9.out⟩
                case measure => simp [intOf]; omega
              · have hjs2 : ¬ (j : Int) = (s : Int) := by omega
                have hdel := og_del (kyN f ST j) HG8.out (ky_ok HO.out ST j)
                rw [delN_in Hin.out, Hin.out] at hdel
                simp only [Option.isSome_some] at hdel
                go_wp2_with (fail)
                refine hdel.mono ?_
                rintro e w9 ⟨rfl, hg9, hm9⟩
                have HG9 : Hid (Og W1 w9 t v i (cnN i s (j + 1)) (max P i) (dmN f ST i s (j + 1))) := by
                  show Og _ _ _ _ _ _ _ _
                  rw [show cnN i s (j + 1) = cnN i s j - 1 by unfold cnN; by_cases q : s < j; rw [if_pos (by omega), if_pos q]; omega; rw [if_neg (by omega), if_neg q]; omega, show dmN f ST i s (j + 1) = upd (dmN f ST i s j) (kyN f ST j) none by rw [dmN]; exact if_neg hjs]
                  exact hg9
                have HH9 : Hid (Kb w9 t v B (.cells #[.int .u32 (((kyN f ST j)).s : Int), .int .u32 (((kyN f ST j)).d : Int), .int .u16 (((kyN f ST j)).p : Int), .int .u16 (((kyN f ST j)).q : Int), .int .u8 (((kyN f ST j)).r : Int)] 36)) := HH8.out.moved hm9
                have HG10 : Hid (Og W1 (w9.setCell ⟨B, 1, none⟩ (.int .u32 ((kyN f ST (j + 1)).d : Int))) t v i (cnN i s (j + 1)) (max P i) (dmN f ST i s (j + 1))) := HG9.out.cells (only_setCell _ _ _ _) HH9.out.2.1 HH9.out.2.2 hBW
                have HH10 : Hid (Kb (w9.setCell ⟨B, 1, none⟩ (.int .u32 ((kyN f ST (j + 1)).d : Int))) t v B (.cells #[.int .u32 (((kyN f ST (j + 1))).s : Int), .int .u32 (((kyN f ST (j + 1))).d : Int), .int .u16 (((kyN f ST (j + 1))).p : Int), .int .u16 (((kyN f ST (j + 1))).q : Int), .int .u8 (((kyN f ST (j + 1))).r : Int)] 36)) := ⟨blk_set HH9.out.1 (j := 1) _, HH9.out.2⟩
                clear hdel hg9 hm9 HG8 HH8 k0 k1 k2 k3 k4 f1
                obtain ⟨k0, k1, k2, k3, k4⟩ := blk5 HH9.out.1
                have f1 := blk_free HH9.out.1 1
                clear HG9 HH9
                go_wp2_with (fail)
                go_roundw
                case rel => exact ⟨j + 1, v, by omega, by go_num, HG10.out, HH10.out⟩
                case measure => simp [intOf]; omega
            · obtain rfl : j = i := by omega
              have hnj : ¬ (j : Int) < (j : Int) := by omega
              clear k0 k1 k2 k3 k4
              obtain ⟨k0, k1, k2, k3, k4⟩ := blk5 (blk_on HK1.out HG.out.bel)
              go_upto_region 31 with (fail)
              have ek : ((f.d : Int) + (s : Int) * (ST : Int)) % 4294967296 = ((kyN f ST s).d : Int) := by
                show _ = (((f.d + s * ST) % 4294967296 : Nat) : Int)
                rw [Int.natCast_emod, Int.natCast_add, Int.natCast_mul]; rfl
              rw [ek]
              have hcn : cnN j s j = 1 := by unfold cnN; rw [if_pos hs1]; omega
              rw [hcn] at HG
              have b9 : Below wr.heap.size wr (wr.alloc (.cells #[.int .u32 (((kyN f ST s)).s : Int), .int .u32 (((kyN f ST s)).d : Int), .int .u16 (((kyN f ST s)).p : Int), .int .u16 (((kyN f ST s)).q : Int), .int .u8 (((kyN f ST s)).r : Int)] 36)) := (Below.refl _ _).alloc (Nat.le_refl _) _
              have HG9 : Hid (Og W1 (wr.alloc (.cells #[.int .u32 (((kyN f ST s)).s : Int), .int .u32 (((kyN f ST s)).d : Int), .int .u16 (((kyN f ST s)).p : Int), .int .u16 (((kyN f ST s)).q : Int), .int .u8 (((kyN f ST s)).r : Int)] 36)) t v j 1 (max P j) (dmN f ST j s j)) := HG.out.on b9
              have HK9 : Hid ((wr.alloc (.cells #[.int .u32 (((kyN f ST s)).s : Int), .int .u32 (((kyN f ST s)).d : Int), .int .u16 (((kyN f ST s)).p : Int), .int .u16 (((kyN f ST s)).q : Int), .int .u8 (((kyN f ST s)).r : Int)] 36)).heap[wr.heap.size]? = some (.cells #[.int .u32 (((kyN f ST s)).s : Int), .int .u32 (((kyN f ST s)).d : Int), .int .u16 (((kyN f ST s)).p : Int), .int .u16 (((kyN f ST s)).q : Int), .int .u8 (((kyN f ST s)).r : Int)] 36)) := blk_new wr _
              change Code.wp _ _ _ _ (wr.alloc (.cells #[.int .u32 (((kyN f ST s)).s : Int), .int .u32 (((kyN f ST s)).d : Int), .int .u16 (((kyN f ST s)).p : Int), .int .u16 (((kyN f ST s)).q : Int), .int .u8 (((kyN f ST s)).r : Int)] 36))
              clear ek hcn b9 HG HH k0 k1 k2 k3 k4
              generalize wr.alloc (.cells #[.int .u32 (((kyN f ST s)).s : Int), .int .u32 (((kyN f ST s)).d : Int), .int .u16 (((kyN f ST s)).p : Int), .int .u16 (((kyN f ST s)).q : Int), .int .u8 (((kyN f ST s)).r : Int)] 36) = w9 at *
              generalize wr.heap.size = B2 at *
              go_wp2_with (fail)
              refine (awakeC w9).mono ?_
              rintro e w10 ⟨rfl, hb10⟩
              have HG10 : Hid (Og W1 w10 t v j 1 (max P j) (dmN f ST j s j)) := HG9.out.on hb10
              have HK10 : Hid (w10.heap[B2]? = some (.cells #[.int .u32 (((kyN f ST s)).s : Int), .int .u32 (((kyN f ST s)).d : Int), .int .u16 (((kyN f ST s)).p : Int), .int .u16 (((kyN f ST s)).q : Int), .int .u8 (((kyN f ST s)).r : Int)] 36)) := blk_on HK9.out hb10
              clear hb10 HG9 HK9
              obtain ⟨k0, k1, k2, k3, k4⟩ := blk5 HK10.out
              have hbd : Calls Try.prog 17 #[.pointer (some ⟨t, 0, none⟩), .int .i64 1, .int .i64 (j : Int), .agg #[.int .u32 (((kyN f ST s)).s : Int), .int .u32 (((kyN f ST s)).d : Int), .int .u16 (((kyN f ST s)).p : Int), .int .u16 (((kyN f ST s)).q : Int), .int .u8 (((kyN f ST s)).r : Int)]] w10 fun e w' => e = .returned (.bool true) ∧ Below w10.heap.size w10 w' := boundsC t v j 1 (max P j) j (dmN f ST j s j) (kyN f ST s) w10 HG10.out.a (ky_ok HO.out ST s) HP5.out (by omega)
              go_wp2_with (fail)
              refine hbd.mono ?_
              rintro e w11 ⟨rfl, hb11⟩
              have HG11 : Hid (Og W1 w11 t v j 1 (max P j) (dmN f ST j s j)) := HG10.out.on hb11
              have HK11 : Hid (w11.heap[B2]? = some (.cells #[.int .u32 (((kyN f ST s)).s : Int), .int .u32 (((kyN f ST s)).d : Int), .int .u16 (((kyN f ST s)).p : Int), .int .u16 (((kyN f ST s)).q : Int), .int .u8 (((kyN f ST s)).r : Int)] 36)) := blk_on HK10.out hb11
              clear hbd hb11 HG10 HK10 k0 k1 k2 k3 k4
              obtain ⟨k0, k1, k2, k3, k4⟩ := blk5 HK11.out
              have b12 : Below w11.heap.size w11 (w11.alloc (.cells #[.int .u32 (((⟨kyN f ST s, (s : Int)⟩ : Ey)).k.s : Int), .int .u32 (((⟨kyN f ST s, (s : Int)⟩ : Ey)).k.d : Int), .int .u16 (((⟨kyN f ST s, (s : Int)⟩ : Ey)).k.p : Int), .int .u16 (((⟨kyN f ST s, (s : Int)⟩ : Ey)).k.q : Int), .int .u8 (((⟨kyN f ST s, (s : Int)⟩ : Ey)).k.r : Int), .int .i64 ((⟨kyN f ST s, (s : Int)⟩ : Ey)).v] 52)) := (Below.refl _ _).alloc (Nat.le_refl _) _
              have hall := allsC t v j 1 (max P j) (dmN f ST j s j) [⟨kyN f ST s, (s : Int)⟩] (.slice (some ⟨w11.heap.size, 0, none⟩) 1 1) 0 (w11.alloc (.cells #[.int .u32 (((⟨kyN f ST s, (s : Int)⟩ : Ey)).k.s : Int), .int .u32 (((⟨kyN f ST s, (s : Int)⟩ : Ey)).k.d : Int), .int .u16 (((⟨kyN f ST s, (s : Int)⟩ : Ey)).k.p : Int), .int .u16 (((⟨kyN f ST s, (s : Int)⟩ : Ey)).k.q : Int), .int .u8 (((⟨kyN f ST s, (s : Int)⟩ : Ey)).k.r : Int), .int .i64 ((⟨kyN f ST s, (s : Int)⟩ : Ey)).v] 52)) (HG11.out.a.on b12) (dm_tells HO.out hodd (by omega) hs1) (RowY.one w11 0 ⟨kyN f ST s, (s : Int)⟩ (Nat.zero_le _)).src (by simp) (by decide) (by decide)
              have HB12 : Hid (Below w.heap.size w (w11.alloc (.cells #[.int .u32 (((⟨kyN f ST s, (s : Int)⟩ : Ey)).k.s : Int), .int .u32 (((⟨kyN f ST s, (s : Int)⟩ : Ey)).k.d : Int), .int .u16 (((⟨kyN f ST s, (s : Int)⟩ : Ey)).k.p : Int), .int .u16 (((⟨kyN f ST s, (s : Int)⟩ : Ey)).k.q : Int), .int .u8 (((⟨kyN f ST s, (s : Int)⟩ : Ey)).k.r : Int), .int .i64 ((⟨kyN f ST s, (s : Int)⟩ : Ey)).v] 52))) := HB1.out.trans ((HG11.out.bel.trans (b12.mono HG11.out.bel.size)).mono HB1.out.size)
              clear b12 HG11 HK11
              go_wp2_with (fail)
              refine hall.mono ?_
              rintro e w13 ⟨rfl, hb13⟩
              have HB13 : Hid (Below w.heap.size w w13) := bel_of HB12.out hb13 HB12.out.size
              clear hall hb13 HB12
              go_wp2_with (fail)
              go_ret
              exact ⟨rfl, HB13.out⟩
end Go.Proofs.Ythfjdoenofkghaa
