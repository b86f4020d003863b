/-
  TrieLongest where the width is 8. Written by tools/mkTrL8.py.
-/
import Derived.Test.YtfbkjghipahipaaTrLm
namespace Go.Proofs.Ytfbkjghipahipaa
open Go.RowKit Go.Shelf
set_option linter.unusedVariables false
set_option linter.unusedSimpArgs false

set_option maxRecDepth 20000 in
set_option maxHeartbeats 40000000 in
theorem trieLongest_8 (k : Nat) (hk : k < 4294967296) (w : World) (ad : Option Addr) (N cap : Nat) (hl' : ¬ (16777216 : Int) < (N : Int))
    (hp : Calls Try.prog 10 #[.int .i64 8, .slice ad N cap] w fun e W' => ∃ t v L ar, e = .returned (.pointer (some ⟨t, 0, none⟩)) ∧ Own w W' t v 8 1048576 L ar) :
    Calls Try.prog 4 #[.int .i64 8, .slice ad N cap, .int .u32 (k : Int)] w fun e w' => e = .returned (.bool true) ∧ Below w.heap.size w w' := by
  go_enter Try.func4, Try.ntmps4
  go_wp2_with (fail)
  refine hp.mono ?_
  rintro e W1 ⟨t, v, L, ar, rfl, o1⟩
  have O1 := hidMk o1
  clear o1 hp
  go_wp2_with (fail)
  refine (walkC (some ⟨t, 0, none⟩) _).mono ?_
  rintro e w9 ⟨rfl, hw9⟩
  obtain rfl := hw9.symm
  clear hw9
  go_wp2_with (fail)
  refine (told_walk O1.out).mono ?_
  rintro e W2 ⟨r8, rfl, k2, o2, -⟩
  have O2 := hidMk o2
  have K2 := hidMk k2
  clear k2 o2 O1
  go_wp2_with (fail)
  refine (aboveC (some ⟨t, 0, none⟩) k 8 _).mono ?_
  rintro e w9 ⟨rfl, hw9⟩
  obtain rfl := hw9.symm
  clear hw9
  go_wp2_with (fail)
  refine (told_above O2.out k 8 hk).mono ?_
  rintro e W3 ⟨r9, rfl, k3, o3, hb3⟩
  have O3 := hidMk o3
  have K3 := hidMk k3
  have K2b := hidMk (K2.out.on hb3)
  clear k3 o3 O2 K2 hb3
  have hD : Hid (abvD 8 L k ((8 : Nat) : Int) = L.filter (bgn 8 k)) := abv_filter O3.out.tr.srt (fun e he => O3.out.tr.may he) k
  have hlg := fun W (h : Own w W t v 8 1048576 L ar) => longC t v 8 1048576 L ar k W h.tr (by decide) (by decide) hk
  obtain ⟨D, hDe⟩ : ∃ D, D = abvD 8 L k ((8 : Nat) : Int) := ⟨_, rfl⟩
  have K3b : Hid (Kr W3 t v r9 D) := by rw [hDe]; exact K3.out
  rw [← hDe] at hD
  have hlg2 : ∀ W, Own w W t v 8 1048576 L ar → Calls Try.prog 14 #[.pointer (some ⟨t, 0, none⟩), .int .u32 (k : Int)] W fun e w' => e = .returned (.tuple #[.agg #[.int .u32 ((lasE D).k : Int), .int .i64 ((lasE D).n : Int), .int .i64 (lasE D).v], .bool (anyE D)]) ∧ Below W.heap.size W w' := by rw [hDe]; exact hlg
  obtain ⟨z, hz⟩ : ∃ z, z = lasE D := ⟨_, rfl⟩
  obtain ⟨bo, hbo⟩ : ∃ b, b = anyE D := ⟨_, rfl⟩
  rw [← hz, ← hbo] at hlg2
  have Hz := hidMk hz
  have Hbo := hidMk hbo
  clear hz hbo hlg hDe K3
  obtain ⟨zk, hzk⟩ : ∃ q, q = (z.k : Int) := ⟨_, rfl⟩
  obtain ⟨zn, hzn⟩ : ∃ q, q = (z.n : Int) := ⟨_, rfl⟩
  obtain ⟨zv, hzv⟩ : ∃ q, q = z.v := ⟨_, rfl⟩
  rw [← hzk, ← hzn, ← hzv] at hlg2
  have Hzz : Hid (zk = (z.k : Int) ∧ zn = (z.n : Int) ∧ zv = z.v) := ⟨hzk, hzn, hzv⟩
  clear hzk hzn hzv
  have hl8 : L.length ≤ 1048576 := own_len O3.out
  obtain ⟨ad8, cap8, rfl, hc8, _⟩ := id K2b.out.1
  obtain ⟨ad9, cap9, rfl, hc9, _⟩ := id K3b.out.1
  obtain ⟨m, hm⟩ : ∃ m, m = L.length := ⟨_, rfl⟩
  have Hm : Hid (m = L.length) := hm
  rw [← hm] at hl8 K2b ⊢
  clear hm hc8 hc9
  obtain ⟨m9, hm9⟩ : ∃ m, m = D.length := ⟨_, rfl⟩
  have Hm9 : Hid (m9 = D.length) := hm9
  have hl9 : m9 ≤ m := by rw [hm9, hD.out, Hm.out]; exact List.length_filter_le _ _
  rw [← hm9] at K3b ⊢
  clear hm9
  go_wp2_with (fail)
  refine (hlg2 _ O3.out).mono ?_
  rintro e W4 ⟨rfl, hb4⟩
  have O4 := hidMk (O3.out.on hb4)
  have K4 := hidMk (K2b.out.on hb4)
  have K5 := hidMk (K3b.out.on hb4)
  clear hb4 O3 K2b K3b hlg2
  go_upto_region 9 with (fail)
  have hb5 : Below W4.heap.size W4 (W4.alloc (.cells #[.int .u32 zk, .int .i64 zn, .int .i64 zv] 45)) := bel_al1 W4 _
  have H5 : Hid (Own w (W4.alloc (.cells #[.int .u32 zk, .int .i64 zn, .int .i64 zv] 45)) t v 8 1048576 L ar ∧ Kr (W4.alloc (.cells #[.int .u32 zk, .int .i64 zn, .int .i64 zv] 45)) t v (.slice ad8 m cap8) L ∧ Kr (W4.alloc (.cells #[.int .u32 zk, .int .i64 zn, .int .i64 zv] 45)) t v (.slice ad9 m9 cap9) D ∧ (W4.alloc (.cells #[.int .u32 zk, .int .i64 zn, .int .i64 zv] 45)).heap[W4.heap.size]? = some (.cells #[.int .u32 zk, .int .i64 zn, .int .i64 zv] 45)) := ⟨O4.out.on hb5, K4.out.on hb5, K5.out.on hb5, blk_new W4 _⟩
  clear hb5 O4 K4 K5
  generalize W4.alloc _ = W5 at *
  generalize W4.heap.size = XB at *
  go_wp2_with (fail)
  go_loopw [13, 12] (fun s13 s12 wr => ∃ i : Nat, i ≤ m ∧ s13 = .int .i64 (i : Int) ∧ Hid (Below W5.heap.size W5 wr) ∧ Hid (RowE wr W5.heap.size s12 ((L.take i).filter (bgn 8 k)))) (fun s13 _ _ => m - (intOf s13).toNat)
  case atStart => exact ⟨0, Nat.zero_le _, rfl, Below.refl _ _, RowE.nil _ _⟩
  case round =>
    obtain ⟨i, hi, rfl, HB, HR⟩ := hrel
    by_cases hlt : i < m
    · as_aux_lemma =>
        have hkl : i < L.length := by rw [← Hm.out]; exact hlt
        have hlt' : (i : Int) < (m : Int) := by omega
        have hix : (i : Int) < (m : Int) := hlt'
        have hix2 : ¬ m ≤ i := by omega
        have hO := H5.out.1.on HB.out
        have hK := H5.out.2.1.on HB.out
        obtain ⟨g, off, rfl, hcs⟩ := src_cells hK.1 (by omega)
        have Hcs : Hid (∀ W, SrcE W (.slice (some ⟨g, off, none⟩) m cap8) L → ∀ i (hi : i < L.length), W.cell? ⟨g, off + i * 3, none⟩ = some (.int .u32 ((L[i]'hi).k : Int)) ∧ W.cell? ⟨g, off + i * 3 + 1, none⟩ = some (.int .i64 ((L[i]'hi).n : Int)) ∧ W.cell? ⟨g, off + i * 3 + 2, none⟩ = some (.int .i64 (L[i]'hi).v)) := hcs
        have hmy : May 8 (L[i]'hkl).k (L[i]'hkl).n := hO.tr.may (List.getElem_mem hkl)
        have hgt := fun W (h : Own w W t v 8 1048576 L ar) => getC t v 8 1048576 L ar (L[i]'hkl).k ((L[i]'hkl).n : Int) W h.tr (by decide) (by decide) (kr_word (by decide) hmy)
        rw [get_held hO.tr.srt (List.getElem_mem hkl) hmy] at hgt
        have HN : Hid (∀ j, j + 1 = i → ∃ hj : j < L.length, ltE (L[j]'hj) (L[i]'hkl)) := fun j hj => ⟨by omega, srt_next hO.tr.srt hj hkl⟩
        have HT : Hid ((L.take (i + 1)).filter (bgn 8 k) = if bgn 8 k (L[i]'hkl) then (L.take i).filter (bgn 8 k) ++ [L[i]'hkl] else (L.take i).filter (bgn 8 k)) := take_filter _ hkl
        have Hcc : Hid (∀ W, Below W5.heap.size W5 W → W.cell? ⟨g, off + i * 3, none⟩ = some (.int .u32 ((L[i]'hkl).k : Int)) ∧ W.cell? ⟨g, off + i * 3 + 1, none⟩ = some (.int .i64 ((L[i]'hkl).n : Int)) ∧ W.cell? ⟨g, off + i * 3 + 2, none⟩ = some (.int .i64 (L[i]'hkl).v)) := fun W hW => hcs W (H5.out.2.1.on hW).1 i hkl
        have hek0 := kr_word (show 8 ≤ 32 by decide) hmy
        obtain ⟨hn1, _, _⟩ := hmy
        obtain ⟨e0, he0⟩ : ∃ e, e = L[i]'hkl := ⟨_, rfl⟩
        rw [← he0] at hgt HN HT Hcc hn1 hek0
        have hek : e0.k < 4294967296 := hek0
        clear hek0
        have He0 : Hid (e0 = L[i]'hkl) := he0
        have hgt2 : ∀ W, Own w W t v 8 1048576 L ar → Calls Try.prog 15 #[.pointer (some ⟨t, 0, none⟩), .int .u32 (e0.k : Int), .int .i64 (e0.n : Int)] W fun e w' => e = .returned (.tuple #[.int .i64 e0.v, .bool true]) ∧ Below W.heap.size W w' := hgt
        clear hcs hO hK hgt he0
        have hwk : IntKind.i64.wrap ((i : Int) + 1) = (i : Int) + 1 := by rw [IntKind.wrap_i64]; omega
        go_upto_region 13 with (fail)
        refine wp_region_held_drew (S := fun w' => w'.cell? ⟨g, off + i * 3, none⟩ = some (.int .u32 (e0.k : Int)) ∧ w'.cell? ⟨g, off + i * 3 + 1, none⟩ = some (.int .i64 (e0.n : Int))) (by kernel_rfl) (by have := Hcc.out _ HB.out; exact ⟨this.1, this.2.1⟩) (fun hS1 => ?_)
        show wpAnyH _ _ _ _ _ 17 _ _ _
        refine wpAnyH_take (i := 0) (v := .pointer (some ⟨t, 0, none⟩)) rfl (by kernel_rfl) (by kernel_rfl) (by kernel_rfl) (fun _ _ _ h => h) (.inl ⟨rfl, fun _ _ => by simp [execOp, go_sem]⟩) hS1 ?_
        simp only [List.getElem_toArray, List.getElem_cons_succ, List.getElem_cons_zero, Act.put, List.setIfInBounds_toArray, List.set_cons_zero, List.set_cons_succ]
        refine wpAnyH_take (i := 1) (v := .slice (some ⟨g, off, none⟩) m cap8) rfl (by kernel_rfl) (by kernel_rfl) (by kernel_rfl) (fun _ _ _ h => h) (.inl ⟨rfl, fun _ _ => by simp [execOp, go_sem]⟩) hS1 ?_
        simp only [List.getElem_toArray, List.getElem_cons_succ, List.getElem_cons_zero, Act.put, List.setIfInBounds_toArray, List.set_cons_zero, List.set_cons_succ]
        refine wpAnyH_take (i := 2) (v := .int .i64 (i : Int)) rfl (by kernel_rfl) (by kernel_rfl) (by kernel_rfl) (fun _ _ _ h => h) (.inl ⟨rfl, fun _ _ => by simp [execOp, go_sem]⟩) hS1 ?_
        simp only [List.getElem_toArray, List.getElem_cons_succ, List.getElem_cons_zero, Act.put, List.setIfInBounds_toArray, List.set_cons_zero, List.set_cons_succ]
        refine wpAnyH_take (i := 3) (v := .pointer (some ⟨g, off + i * 3, none⟩)) rfl (by kernel_rfl) (by kernel_rfl) (by kernel_rfl) (fun _ _ _ h => h) (yieldsIf_index rfl 30 (.tmp 61) (.tmp 62) rfl _ (fun w => by simp [Instr.indexAt, go_sem, hix, hix2])) hS1 ?_
        simp only [List.getElem_toArray, List.getElem_cons_succ, List.getElem_cons_zero, Act.put, List.setIfInBounds_toArray, List.set_cons_zero, List.set_cons_succ]
        refine wpAnyH_take (i := 4) (v := .pointer (some ⟨g, off + i * 3, none⟩)) rfl (by kernel_rfl) (by kernel_rfl) (by kernel_rfl) (fun _ _ _ h => h) (.inl ⟨rfl, fun _ _ => by simp [execOp, go_sem]⟩) hS1 ?_
        simp only [List.getElem_toArray, List.getElem_cons_succ, List.getElem_cons_zero, Act.put, List.setIfInBounds_toArray, List.set_cons_zero, List.set_cons_succ]
        refine wpAnyH_take (i := 5) (v := .int .u32 (e0.k : Int)) rfl (by kernel_rfl) (by kernel_rfl) (by kernel_rfl) (fun _ _ _ h => h) (.inl ⟨rfl, fun w' hw' => by have hcc := hw'.1; simp [execOp, go_sem, hcc]⟩) hS1 ?_
        simp only [List.getElem_toArray, List.getElem_cons_succ, List.getElem_cons_zero, Act.put, List.setIfInBounds_toArray, List.set_cons_zero, List.set_cons_succ]
        refine wpAnyH_take (i := 6) (v := .slice (some ⟨g, off, none⟩) m cap8) rfl (by kernel_rfl) (by kernel_rfl) (by kernel_rfl) (fun _ _ _ h => h) (.inl ⟨rfl, fun _ _ => by simp [execOp, go_sem]⟩) hS1 ?_
        simp only [List.getElem_toArray, List.getElem_cons_succ, List.getElem_cons_zero, Act.put, List.setIfInBounds_toArray, List.set_cons_zero, List.set_cons_succ]
        refine wpAnyH_take (i := 7) (v := .int .i64 (i : Int)) rfl (by kernel_rfl) (by kernel_rfl) (by kernel_rfl) (fun _ _ _ h => h) (.inl ⟨rfl, fun _ _ => by simp [execOp, go_sem]⟩) hS1 ?_
        simp only [List.getElem_toArray, List.getElem_cons_succ, List.getElem_cons_zero, Act.put, List.setIfInBounds_toArray, List.set_cons_zero, List.set_cons_succ]
        refine wpAnyH_take (i := 8) (v := .pointer (some ⟨g, off + i * 3, none⟩)) rfl (by kernel_rfl) (by kernel_rfl) (by kernel_rfl) (fun _ _ _ h => h) (yieldsIf_index rfl 30 (.tmp 66) (.tmp 67) rfl _ (fun w => by simp [Instr.indexAt, go_sem, hix, hix2])) hS1 ?_
        simp only [List.getElem_toArray, List.getElem_cons_succ, List.getElem_cons_zero, Act.put, List.setIfInBounds_toArray, List.set_cons_zero, List.set_cons_succ]
        refine wpAnyH_take (i := 9) (v := .pointer (some ⟨g, off + i * 3 + 1, none⟩)) rfl (by kernel_rfl) (by kernel_rfl) (by kernel_rfl) (fun _ _ _ h => h) (.inl ⟨rfl, fun _ _ => by simp [execOp, go_sem]⟩) hS1 ?_
        simp only [List.getElem_toArray, List.getElem_cons_succ, List.getElem_cons_zero, Act.put, List.setIfInBounds_toArray, List.set_cons_zero, List.set_cons_succ]
        refine wpAnyH_take (i := 10) (v := .int .i64 (e0.n : Int)) rfl (by kernel_rfl) (by kernel_rfl) (by kernel_rfl) (fun _ _ _ h => h) (.inl ⟨rfl, fun w' hw' => by have hcc := hw'.2; simp [execOp, go_sem, hcc]⟩) hS1 ?_
        simp only [List.getElem_toArray, List.getElem_cons_succ, List.getElem_cons_zero, Act.put, List.setIfInBounds_toArray, List.set_cons_zero, List.set_cons_succ]
        refine wpAnyH_all (rs := [11]) (by kernel_rfl) (by simp) ?_
        intro i hi
        simp only [List.mem_cons, List.not_mem_nil, or_false] at hi
        subst hi
        refine wpOp_of_wp rfl rfl (fun K' hK' => ?_)
        go_wp2_with (go_at_call 15; refine (hgt2 _ (H5.out.1.on HB.out.drew)).mono ?_; rintro e W9 ⟨rfl, hb9⟩)
        have hb9' : Below wr.heap.size wr W9 := ((Below.refl _ _).drew).trans hb9
        have HB9 : Hid (Below W5.heap.size W5 W9) := HB.out.trans (hb9'.mono HB.out.size)
        have HR9 := hidMk (HR.out.on hb9')
        have hS3 : W9.cell? ⟨g, off + i * 3, none⟩ = some (.int .u32 (e0.k : Int)) ∧ W9.cell? ⟨g, off + i * 3 + 1, none⟩ = some (.int .i64 (e0.n : Int)) := by have := Hcc.out _ HB9.out; exact ⟨this.1, this.2.1⟩
        refine ⟨hS3, ?_⟩
        refine wpAnyH_take (i := 12) (v := .tuple #[.int .i64 e0.v, .bool true]) rfl (by kernel_rfl) (by kernel_rfl) (by kernel_rfl) (fun _ _ _ h => h) (.inl ⟨rfl, fun _ _ => by simp [execOp, go_sem]⟩) hS3 ?_
        simp only [List.getElem_toArray, List.getElem_cons_succ, List.getElem_cons_zero, Act.put, List.setIfInBounds_toArray, List.set_cons_zero, List.set_cons_succ]
        refine wpAnyH_take (i := 13) (v := .int .i64 e0.v) rfl (by kernel_rfl) (by kernel_rfl) (by kernel_rfl) (fun _ _ _ h => h) (.inl ⟨rfl, fun _ _ => by simp [execOp, go_sem]⟩) hS3 ?_
        simp only [List.getElem_toArray, List.getElem_cons_succ, List.getElem_cons_zero, Act.put, List.setIfInBounds_toArray, List.set_cons_zero, List.set_cons_succ]
        refine wpAnyH_take (i := 14) (v := .bool true) rfl (by kernel_rfl) (by kernel_rfl) (by kernel_rfl) (fun _ _ _ h => h) (.inl ⟨rfl, fun _ _ => by simp [execOp, go_sem]⟩) hS3 ?_
        simp only [List.getElem_toArray, List.getElem_cons_succ, List.getElem_cons_zero, Act.put, List.setIfInBounds_toArray, List.set_cons_zero, List.set_cons_succ]
        refine wpAnyH_take (i := 15) (v := .int .i64 e0.v) rfl (by kernel_rfl) (by kernel_rfl) (by kernel_rfl) (fun _ _ _ h => h) (.inl ⟨rfl, fun _ _ => by simp [execOp, go_sem]⟩) hS3 ?_
        simp only [List.getElem_toArray, List.getElem_cons_succ, List.getElem_cons_zero, Act.put, List.setIfInBounds_toArray, List.set_cons_zero, List.set_cons_succ]
        refine wpAnyH_take (i := 16) (v := .bool true) rfl (by kernel_rfl) (by kernel_rfl) (by kernel_rfl) (fun _ _ _ h => h) (.inl ⟨rfl, fun _ _ => by simp [execOp, go_sem]⟩) hS3 ?_
        simp only [List.getElem_toArray, List.getElem_cons_succ, List.getElem_cons_zero, Act.put, List.setIfInBounds_toArray, List.set_cons_zero, List.set_cons_succ]
        refine wpAnyH_done (by kernel_rfl) ?_ _
        clear hS1 hS3 hb9 hb9' HB HR hgt2
        obtain ⟨q0, q1, q2⟩ := Hcc.out _ HB9.out
        go_upto_region 14 with (fail)
        by_cases hi0 : 0 < i
        · as_aux_lemma =>
            obtain ⟨j, hj⟩ : ∃ j, j + 1 = i := ⟨i - 1, by omega⟩
            obtain ⟨hjl, hlt2⟩ := HN.out j hj
            have ej : (i : Int) - 1 = (j : Int) := by omega
            have hj1 : (0 : Int) < (i : Int) := by omega
            have hjm : (j : Int) < (m : Int) := by omega
            have hjm2 : ¬ m ≤ j := by omega
            have hwj : IntKind.i64.wrap (j : Int) = (j : Int) := by rw [IntKind.wrap_i64]; omega
            obtain ⟨p0, p1, _⟩ := Hcs.out _ ((H5.out.2.1.on HB9.out).1) j hjl
            generalize L[j]'hjl = f0 at p0 p1 hlt2
            clear HN Hcs
            unfold ltE at hlt2
            rcases hlt2 with hc | ⟨hc1, hc2⟩
            · as_aux_lemma =>
                have c1 : ¬ (e0.k : Int) < (f0.k : Int) := by omega
                have c2 : ¬ (f0.k : Int) = (e0.k : Int) := by omega
                clear hc
                go_quiet (fail)
                clear q0 q1 q2
                have HB10 : Hid (Below W5.heap.size W5 (W9.drewN nq)) := bel_drewN HB9.out nq
                have HR10 : Hid (RowE (W9.drewN nq) W5.heap.size u12 ((L.take i).filter (bgn 8 k))) := HR9.out.on (bel_drewN (Below.refl _ _) nq)
                clear HB9 HR9
                generalize W9.drewN nq = W10 at *
                obtain ⟨q0, q1, q2⟩ := Hcc.out _ HB10.out
                go_upto_region 16 with (fail)
                obtain ⟨d, hd⟩ : ∃ d, d = 8 - e0.n := ⟨_, rfl⟩
                have e3 : (8 : Int) - (e0.n : Int) = (d : Int) := by omega
                have hdx : d ≤ 8 := by omega
                have hdx2 : (d : Int) ≤ 8 := by omega
                have HBg : Hid (bgn 8 k e0 = (decide (k / 2 ^ 8 = 0) && decide (k / 2 ^ d = e0.k / 2 ^ d))) := by show _ = _; rw [hd]; rfl
                have hkI : (k : Int) < 4294967296 := by omega
                have hkE : (e0.k : Int) < 4294967296 := by have := hek; omega
                clear hd
                by_cases g1 : k / 2 ^ 8 = 0
                · as_aux_lemma =>
                    have a1 : (k : Int) / 256 = 0 := by omega
                    by_cases g2 : k / 2 ^ d = e0.k / 2 ^ d
                    · as_aux_lemma =>
                        have a2 : (k : Int) / 2 ^ d = (e0.k : Int) / 2 ^ d := by rw [show (k : Int) / 2 ^ d = ((k / 2 ^ d : Nat) : Int) by simp, show (e0.k : Int) / 2 ^ d = ((e0.k / 2 ^ d : Nat) : Int) by simp]; rw [g2]
                        have hbg : bgn 8 k e0 = true := by rw [HBg.out, decide_eq_true g1, decide_eq_true g2]; rfl
                        have Hbg := hidMk hbg
                        clear hbg HBg g1 g2
                        go_quiet (fail)
                        have HR11 := hidMk (HR10.out.on (bel_drewN (Below.refl _ _) nq))
                        have HB11 := hidMk (bel_drewN HB10.out nq)
                        clear HR10 HB10 q0 q1 q2
                        generalize W10.drewN nq = W11 at *
                        obtain ⟨q0, q1, q2⟩ := Hcc.out _ HB11.out
                        have Hrg := hidMk (range3 q0 q1 q2)
                        clear q0 q1 q2
                        have hfl : ((L.take i).filter (bgn 8 k)).length ≤ 1048576 := by have h1 := List.length_filter_le (bgn 8 k) (L.take i); have h2 := List.length_take_le i L; omega
                        have Hfl := hidMk hfl
                        clear hfl
                        go_wp2_with (first | (refine wpList_load_mid rfl 45 (.tmp 169) rfl g (off + i * 3) #[.int .u32 (e0.k : Int), .int .i64 (e0.n : Int), .int .i64 e0.v] rfl Hrg.out Try.underlying45 rfl (by kernel_rfl) ?_) | (at_builtin; refine wpList_appendSE rfl (.tmp 166) (.tmp 171) rfl W5.heap.size _ ((L.take i).filter (bgn 8 k)) rfl (HR11.out.alloc _) _ [e0] rfl (RowE.one W11 0 e0 (Nat.zero_le _)).src (HB11.out.alloc HB11.out.size _).size (by have := Hfl.out; simp only [List.length_cons, List.length_nil]; omega) ?_; intro v12 w12 hrow12 hgr12 hat12))
                        have HB12 : Hid (Below W5.heap.size W5 w12) := (HB11.out.alloc HB11.out.size _).grown hgr12 (HB11.out.alloc HB11.out.size _).size (fun q hq => (HR11.out.lt q hq).1)
                        have HR12 := hidMk hrow12
                        clear hrow12 hgr12 hat12 HB11 HR11
                        go_roundw
                        case rel => exact ⟨i + 1, by omega, by go_num, HB12.out, by show RowE _ _ _ _; rw [HT.out, Hbg.out, if_pos rfl]; exact HR12.out⟩
                        case measure => simp [intOf]; omega
                    · as_aux_lemma =>
                        obtain ⟨kd, hkd⟩ : ∃ q : Nat, q = k / 2 ^ d := ⟨_, rfl⟩
                        obtain ⟨ed, hed⟩ : ∃ q : Nat, q = e0.k / 2 ^ d := ⟨_, rfl⟩
                        have a3 : (k : Int) / 2 ^ d = (kd : Int) := by rw [hkd]; simp
                        have a4 : (e0.k : Int) / 2 ^ d = (ed : Int) := by rw [hed]; simp
                        have a2 : ¬ (kd : Int) = (ed : Int) := by rw [hkd, hed]; omega
                        have a2' : ¬ kd = ed := by omega
                        clear hkd hed
                        have hbg : bgn 8 k e0 = false := by rw [HBg.out, decide_eq_false g2, Bool.and_false]
                        have Hbg := hidMk hbg
                        clear hbg HBg g1 g2
                        go_quiet (fail)
                        try clear a3 a4
                        clear a1 e3 hdx hdx2 hkI hkE
                        have HR11 := hidMk (HR10.out.on (bel_drewN (Below.refl _ _) nq))
                        have HB11 := hidMk (bel_drewN HB10.out nq)
                        clear HR10 HB10 q0 q1 q2
                        go_wp2_with (fail)
                        go_roundw
                        case rel => exact ⟨i + 1, by omega, by go_num, HB11.out, by show RowE _ _ _ _; rw [HT.out, Hbg.out, if_neg (by decide)]; exact HR11.out⟩
                        case measure => simp [intOf]; omega
                · as_aux_lemma =>
                    obtain ⟨kq, hkq⟩ : ∃ q : Nat, q = k / 256 := ⟨_, rfl⟩
                    have a1 : (k : Int) / 256 = (kq : Int) := by omega
                    have a2 : ¬ (kq : Int) = 0 := by omega
                    have hwu : IntKind.u64.wrap (k : Int) = (k : Int) := by rw [IntKind.wrap_u64]; omega
                    have hw8 : IntKind.u64.wrap 8 = 8 := by decide
                    have a2' : ¬ kq = 0 := by omega
                    clear hkq
                    have hbg : bgn 8 k e0 = false := by rw [HBg.out, decide_eq_false g1, Bool.false_and]
                    have Hbg := hidMk hbg
                    clear hbg HBg g1
                    go_quiet (fail)
                    try clear a3 a4
                    clear a1 e3 hdx hdx2 hkI hkE
                    have HR11 := hidMk (HR10.out.on (bel_drewN (Below.refl _ _) nq))
                    have HB11 := hidMk (bel_drewN HB10.out nq)
                    clear HR10 HB10 q0 q1 q2
                    go_wp2_with (fail)
                    go_roundw
                    case rel => exact ⟨i + 1, by omega, by go_num, HB11.out, by show RowE _ _ _ _; rw [HT.out, Hbg.out, if_neg (by decide)]; exact HR11.out⟩
                    case measure => simp [intOf]; omega
            · as_aux_lemma =>
                rw [hc1] at p0
                have c3 : ¬ (e0.n : Int) ≤ (f0.n : Int) := by omega
                have c3' : ¬ e0.n ≤ f0.n := by omega
                clear hc1 hc2
                go_quiet (fail)
                clear q0 q1 q2
                have HB10 : Hid (Below W5.heap.size W5 (W9.drewN nq)) := bel_drewN HB9.out nq
                have HR10 : Hid (RowE (W9.drewN nq) W5.heap.size u12 ((L.take i).filter (bgn 8 k))) := HR9.out.on (bel_drewN (Below.refl _ _) nq)
                clear HB9 HR9
                generalize W9.drewN nq = W10 at *
                obtain ⟨q0, q1, q2⟩ := Hcc.out _ HB10.out
                go_upto_region 16 with (fail)
                obtain ⟨d, hd⟩ : ∃ d, d = 8 - e0.n := ⟨_, rfl⟩
                have e3 : (8 : Int) - (e0.n : Int) = (d : Int) := by omega
                have hdx : d ≤ 8 := by omega
                have hdx2 : (d : Int) ≤ 8 := by omega
                have HBg : Hid (bgn 8 k e0 = (decide (k / 2 ^ 8 = 0) && decide (k / 2 ^ d = e0.k / 2 ^ d))) := by show _ = _; rw [hd]; rfl
                have hkI : (k : Int) < 4294967296 := by omega
                have hkE : (e0.k : Int) < 4294967296 := by have := hek; omega
                clear hd
                by_cases g1 : k / 2 ^ 8 = 0
                · as_aux_lemma =>
                    have a1 : (k : Int) / 256 = 0 := by omega
                    by_cases g2 : k / 2 ^ d = e0.k / 2 ^ d
                    · as_aux_lemma =>
                        have a2 : (k : Int) / 2 ^ d = (e0.k : Int) / 2 ^ d := by rw [show (k : Int) / 2 ^ d = ((k / 2 ^ d : Nat) : Int) by simp, show (e0.k : Int) / 2 ^ d = ((e0.k / 2 ^ d : Nat) : Int) by simp]; rw [g2]
                        have hbg : bgn 8 k e0 = true := by rw [HBg.out, decide_eq_true g1, decide_eq_true g2]; rfl
                        have Hbg := hidMk hbg
                        clear hbg HBg g1 g2
                        go_quiet (fail)
                        have HR11 := hidMk (HR10.out.on (bel_drewN (Below.refl _ _) nq))
                        have HB11 := hidMk (bel_drewN HB10.out nq)
                        clear HR10 HB10 q0 q1 q2
                        generalize W10.drewN nq = W11 at *
                        obtain ⟨q0, q1, q2⟩ := Hcc.out _ HB11.out
                        have Hrg := hidMk (range3 q0 q1 q2)
                        clear q0 q1 q2
                        have hfl : ((L.take i).filter (bgn 8 k)).length ≤ 1048576 := by have h1 := List.length_filter_le (bgn 8 k) (L.take i); have h2 := List.length_take_le i L; omega
                        have Hfl := hidMk hfl
                        clear hfl
                        go_wp2_with (first | (refine wpList_load_mid rfl 45 (.tmp 169) rfl g (off + i * 3) #[.int .u32 (e0.k : Int), .int .i64 (e0.n : Int), .int .i64 e0.v] rfl Hrg.out Try.underlying45 rfl (by kernel_rfl) ?_) | (at_builtin; refine wpList_appendSE rfl (.tmp 166) (.tmp 171) rfl W5.heap.size _ ((L.take i).filter (bgn 8 k)) rfl (HR11.out.alloc _) _ [e0] rfl (RowE.one W11 0 e0 (Nat.zero_le _)).src (HB11.out.alloc HB11.out.size _).size (by have := Hfl.out; simp only [List.length_cons, List.length_nil]; omega) ?_; intro v12 w12 hrow12 hgr12 hat12))
                        have HB12 : Hid (Below W5.heap.size W5 w12) := (HB11.out.alloc HB11.out.size _).grown hgr12 (HB11.out.alloc HB11.out.size _).size (fun q hq => (HR11.out.lt q hq).1)
                        have HR12 := hidMk hrow12
                        clear hrow12 hgr12 hat12 HB11 HR11
                        go_roundw
                        case rel => exact ⟨i + 1, by omega, by go_num, HB12.out, by show RowE _ _ _ _; rw [HT.out, Hbg.out, if_pos rfl]; exact HR12.out⟩
                        case measure => simp [intOf]; omega
                    · as_aux_lemma =>
                        obtain ⟨kd, hkd⟩ : ∃ q : Nat, q = k / 2 ^ d := ⟨_, rfl⟩
                        obtain ⟨ed, hed⟩ : ∃ q : Nat, q = e0.k / 2 ^ d := ⟨_, rfl⟩
                        have a3 : (k : Int) / 2 ^ d = (kd : Int) := by rw [hkd]; simp
                        have a4 : (e0.k : Int) / 2 ^ d = (ed : Int) := by rw [hed]; simp
                        have a2 : ¬ (kd : Int) = (ed : Int) := by rw [hkd, hed]; omega
                        have a2' : ¬ kd = ed := by omega
                        clear hkd hed
                        have hbg : bgn 8 k e0 = false := by rw [HBg.out, decide_eq_false g2, Bool.and_false]
                        have Hbg := hidMk hbg
                        clear hbg HBg g1 g2
                        go_quiet (fail)
                        try clear a3 a4
                        clear a1 e3 hdx hdx2 hkI hkE
                        have HR11 := hidMk (HR10.out.on (bel_drewN (Below.refl _ _) nq))
                        have HB11 := hidMk (bel_drewN HB10.out nq)
                        clear HR10 HB10 q0 q1 q2
                        go_wp2_with (fail)
                        go_roundw
                        case rel => exact ⟨i + 1, by omega, by go_num, HB11.out, by show RowE _ _ _ _; rw [HT.out, Hbg.out, if_neg (by decide)]; exact HR11.out⟩
                        case measure => simp [intOf]; omega
                · as_aux_lemma =>
                    obtain ⟨kq, hkq⟩ : ∃ q : Nat, q = k / 256 := ⟨_, rfl⟩
                    have a1 : (k : Int) / 256 = (kq : Int) := by omega
                    have a2 : ¬ (kq : Int) = 0 := by omega
                    have hwu : IntKind.u64.wrap (k : Int) = (k : Int) := by rw [IntKind.wrap_u64]; omega
                    have hw8 : IntKind.u64.wrap 8 = 8 := by decide
                    have a2' : ¬ kq = 0 := by omega
                    clear hkq
                    have hbg : bgn 8 k e0 = false := by rw [HBg.out, decide_eq_false g1, Bool.false_and]
                    have Hbg := hidMk hbg
                    clear hbg HBg g1
                    go_quiet (fail)
                    try clear a3 a4
                    clear a1 e3 hdx hdx2 hkI hkE
                    have HR11 := hidMk (HR10.out.on (bel_drewN (Below.refl _ _) nq))
                    have HB11 := hidMk (bel_drewN HB10.out nq)
                    clear HR10 HB10 q0 q1 q2
                    go_wp2_with (fail)
                    go_roundw
                    case rel => exact ⟨i + 1, by omega, by go_num, HB11.out, by show RowE _ _ _ _; rw [HT.out, Hbg.out, if_neg (by decide)]; exact HR11.out⟩
                    case measure => simp [intOf]; omega
        · as_aux_lemma =>
            have hi1 : ¬ (0 : Int) < (i : Int) := by omega
            clear HN Hcs
            go_quiet (fail)
            clear q0 q1 q2
            have HB10 : Hid (Below W5.heap.size W5 (W9.drewN nq)) := bel_drewN HB9.out nq
            have HR10 : Hid (RowE (W9.drewN nq) W5.heap.size u12 ((L.take i).filter (bgn 8 k))) := HR9.out.on (bel_drewN (Below.refl _ _) nq)
            clear HB9 HR9
            generalize W9.drewN nq = W10 at *
            obtain ⟨q0, q1, q2⟩ := Hcc.out _ HB10.out
            go_upto_region 16 with (fail)
            obtain ⟨d, hd⟩ : ∃ d, d = 8 - e0.n := ⟨_, rfl⟩
            have e3 : (8 : Int) - (e0.n : Int) = (d : Int) := by omega
            have hdx : d ≤ 8 := by omega
            have hdx2 : (d : Int) ≤ 8 := by omega
            have HBg : Hid (bgn 8 k e0 = (decide (k / 2 ^ 8 = 0) && decide (k / 2 ^ d = e0.k / 2 ^ d))) := by show _ = _; rw [hd]; rfl
            have hkI : (k : Int) < 4294967296 := by omega
            have hkE : (e0.k : Int) < 4294967296 := by have := hek; omega
            clear hd
            by_cases g1 : k / 2 ^ 8 = 0
            · as_aux_lemma =>
                have a1 : (k : Int) / 256 = 0 := by omega
                by_cases g2 : k / 2 ^ d = e0.k / 2 ^ d
                · as_aux_lemma =>
                    have a2 : (k : Int) / 2 ^ d = (e0.k : Int) / 2 ^ d := by rw [show (k : Int) / 2 ^ d = ((k / 2 ^ d : Nat) : Int) by simp, show (e0.k : Int) / 2 ^ d = ((e0.k / 2 ^ d : Nat) : Int) by simp]; rw [g2]
                    have hbg : bgn 8 k e0 = true := by rw [HBg.out, decide_eq_true g1, decide_eq_true g2]; rfl
                    have Hbg := hidMk hbg
                    clear hbg HBg g1 g2
                    go_quiet (fail)
                    have HR11 := hidMk (HR10.out.on (bel_drewN (Below.refl _ _) nq))
                    have HB11 := hidMk (bel_drewN HB10.out nq)
                    clear HR10 HB10 q0 q1 q2
                    generalize W10.drewN nq = W11 at *
                    obtain ⟨q0, q1, q2⟩ := Hcc.out _ HB11.out
                    have Hrg := hidMk (range3 q0 q1 q2)
                    clear q0 q1 q2
                    have hfl : ((L.take i).filter (bgn 8 k)).length ≤ 1048576 := by have h1 := List.length_filter_le (bgn 8 k) (L.take i); have h2 := List.length_take_le i L; omega
                    have Hfl := hidMk hfl
                    clear hfl
                    go_wp2_with (first | (refine wpList_load_mid rfl 45 (.tmp 169) rfl g (off + i * 3) #[.int .u32 (e0.k : Int), .int .i64 (e0.n : Int), .int .i64 e0.v] rfl Hrg.out Try.underlying45 rfl (by kernel_rfl) ?_) | (at_builtin; refine wpList_appendSE rfl (.tmp 166) (.tmp 171) rfl W5.heap.size _ ((L.take i).filter (bgn 8 k)) rfl (HR11.out.alloc _) _ [e0] rfl (RowE.one W11 0 e0 (Nat.zero_le _)).src (HB11.out.alloc HB11.out.size _).size (by have := Hfl.out; simp only [List.length_cons, List.length_nil]; omega) ?_; intro v12 w12 hrow12 hgr12 hat12))
                    have HB12 : Hid (Below W5.heap.size W5 w12) := (HB11.out.alloc HB11.out.size _).grown hgr12 (HB11.out.alloc HB11.out.size _).size (fun q hq => (HR11.out.lt q hq).1)
                    have HR12 := hidMk hrow12
                    clear hrow12 hgr12 hat12 HB11 HR11
                    go_roundw
                    case rel => exact ⟨i + 1, by omega, by go_num, HB12.out, by show RowE _ _ _ _; rw [HT.out, Hbg.out, if_pos rfl]; exact HR12.out⟩
                    case measure => simp [intOf]; omega
                · as_aux_lemma =>
                    obtain ⟨kd, hkd⟩ : ∃ q : Nat, q = k / 2 ^ d := ⟨_, rfl⟩
                    obtain ⟨ed, hed⟩ : ∃ q : Nat, q = e0.k / 2 ^ d := ⟨_, rfl⟩
                    have a3 : (k : Int) / 2 ^ d = (kd : Int) := by rw [hkd]; simp
                    have a4 : (e0.k : Int) / 2 ^ d = (ed : Int) := by rw [hed]; simp
                    have a2 : ¬ (kd : Int) = (ed : Int) := by rw [hkd, hed]; omega
                    have a2' : ¬ kd = ed := by omega
                    clear hkd hed
                    have hbg : bgn 8 k e0 = false := by rw [HBg.out, decide_eq_false g2, Bool.and_false]
                    have Hbg := hidMk hbg
                    clear hbg HBg g1 g2
                    go_quiet (fail)
                    try clear a3 a4
                    clear a1 e3 hdx hdx2 hkI hkE
                    have HR11 := hidMk (HR10.out.on (bel_drewN (Below.refl _ _) nq))
                    have HB11 := hidMk (bel_drewN HB10.out nq)
                    clear HR10 HB10 q0 q1 q2
                    go_wp2_with (fail)
                    go_roundw
                    case rel => exact ⟨i + 1, by omega, by go_num, HB11.out, by show RowE _ _ _ _; rw [HT.out, Hbg.out, if_neg (by decide)]; exact HR11.out⟩
                    case measure => simp [intOf]; omega
            · as_aux_lemma =>
                obtain ⟨kq, hkq⟩ : ∃ q : Nat, q = k / 256 := ⟨_, rfl⟩
                have a1 : (k : Int) / 256 = (kq : Int) := by omega
                have a2 : ¬ (kq : Int) = 0 := by omega
                have hwu : IntKind.u64.wrap (k : Int) = (k : Int) := by rw [IntKind.wrap_u64]; omega
                have hw8 : IntKind.u64.wrap 8 = 8 := by decide
                have a2' : ¬ kq = 0 := by omega
                clear hkq
                have hbg : bgn 8 k e0 = false := by rw [HBg.out, decide_eq_false g1, Bool.false_and]
                have Hbg := hidMk hbg
                clear hbg HBg g1
                go_quiet (fail)
                try clear a3 a4
                clear a1 e3 hdx hdx2 hkI hkE
                have HR11 := hidMk (HR10.out.on (bel_drewN (Below.refl _ _) nq))
                have HB11 := hidMk (bel_drewN HB10.out nq)
                clear HR10 HB10 q0 q1 q2
                go_wp2_with (fail)
                go_roundw
                case rel => exact ⟨i + 1, by omega, by go_num, HB11.out, by show RowE _ _ _ _; rw [HT.out, Hbg.out, if_neg (by decide)]; exact HR11.out⟩
                case measure => simp [intOf]; omega
    · as_aux_lemma =>
        have hlt' : ¬ (i : Int) < (m : Int) := by omega
        have HRd : Hid (RowE wr W5.heap.size u12 D) := by have e1 : L.take i = L := List.take_of_length_le (by have := Hm.out; omega); have q := HR.out; rw [e1] at q; show RowE _ _ _ _; rw [hD.out]; exact q
        clear HR
        obtain ⟨adw, capw, rfl, hcw, _⟩ := id HRd.out.src
        have hm9 := Hm9.out
        rw [← hm9] at HRd ⊢
        clear hm9 hcw
        have HK9 : Hid (Kr wr t v (.slice ad9 m9 cap9) D) := H5.out.2.2.1.on HB.out
        have HX : Hid (wr.heap[XB]? = some (.cells #[.int .u32 zk, .int .i64 zn, .int .i64 zv] 45)) := blk_on H5.out.2.2.2 HB.out
        by_cases h0 : 0 < m9
        · as_aux_lemma =>
            have hb1 : bo = true := by rw [Hbo.out]; unfold anyE; cases hD2 : D with | nil => (have := Hm9.out; rw [hD2] at this; simp at this; omega) | cons => rfl
            subst hb1
            have h0' : (0 : Int) < (m9 : Int) := by omega
            go_wp2_with (fail)
            go_loopw [16] (fun s16 wq => ∃ j : Nat, j ≤ m9 ∧ s16 = .int .i64 (j : Int) ∧ Hid (Below W5.heap.size W5 wq) ∧ Hid (RowE wq W5.heap.size (.slice adw m9 capw) D)) (fun s16 _ => m9 - (intOf s16).toNat)
            case atStart => exact ⟨0, Nat.zero_le _, rfl, HB.out, HRd.out⟩
            case round =>
              clear HB HRd HK9 HX
              obtain ⟨j, hj, rfl, HB2, HR2⟩ := hrel
              by_cases hjt : j < m9
              · as_aux_lemma =>
                  have hjl : j < D.length := by rw [← Hm9.out]; exact hjt
                  have hlt2 : (j : Int) < (m9 : Int) := by omega
                  have hix2 : ¬ m9 ≤ j := by omega
                  have hK9 := H5.out.2.2.1.on HB2.out
                  obtain ⟨g9, o9, rfl, hc9⟩ := src_cells hK9.1 (by omega)
                  obtain ⟨gw, ow, rfl, hcw⟩ := src_cells HR2.out.src (by omega)
                  obtain ⟨c0, c1, c2⟩ := hc9 _ hK9.1 j hjl
                  obtain ⟨d0, d1, d2⟩ := hcw _ HR2.out.src j hjl
                  generalize D[j]'hjl = y0 at c0 c1 c2 d0 d1 d2
                  clear hc9 hcw hK9
                  have hwk : IntKind.i64.wrap ((j : Int) + 1) = (j : Int) + 1 := by rw [IntKind.wrap_i64]; omega
                  go_upto_region 23 with (fail)
                  go_quiet (fail)
                  have HR3 := hidMk (HR2.out.on (bel_drewN (Below.refl _ _) nq))
                  have HB3 := hidMk (bel_drewN HB2.out nq)
                  clear HR2 HB2 c0 c1 c2 d0 d1 d2
                  go_wp2_with (fail)
                  go_roundw
                  case rel => exact ⟨j + 1, by omega, by go_num, HB3.out, HR3.out⟩
                  case measure => simp [intOf]; omega
              · as_aux_lemma =>
                  have hlt2 : ¬ (j : Int) < (m9 : Int) := by omega
                  obtain ⟨q, hq⟩ : ∃ q, q + 1 = m9 := ⟨m9 - 1, by omega⟩
                  have hql : q < D.length := by rw [← Hm9.out]; omega
                  have hlz : D[q]'hql = z := by rw [Hz.out]; unfold lasE; rw [List.getLast?_eq_getElem?, ← Hm9.out, ← hq, Nat.add_sub_cancel, List.getElem?_eq_getElem hql]; rfl
                  obtain ⟨gw, ow, rfl, hcw⟩ := src_cells HR2.out.src (by omega)
                  obtain ⟨d0, d1, d2⟩ := hcw _ HR2.out.src q hql
                  rw [hlz] at d0 d1 d2
                  clear hcw hlz
                  have lg : gw < wr.heap.size := World.block_lt_of_cell? _ _ d0
                  have eq1 : (m9 : Int) - 1 = (q : Int) := by omega
                  have hwq : IntKind.i64.wrap (q : Int) = (q : Int) := by rw [IntKind.wrap_i64]; omega
                  have hq2 : (q : Int) < (m9 : Int) := by omega
                  have hq3 : ¬ m9 ≤ q := by omega
                  clear hq
                  go_wp2_with (fail)
                  have HBc : Hid (Below W5.heap.size W5 (wr.alloc (.cells #[.int .u32 (z.k : Int), .int .i64 (z.n : Int), .int .i64 z.v] 45))) := HB2.out.trans ((bel_al1 wr _).mono HB2.out.size)
                  have HLc : Hid ((wr.alloc (.cells #[.int .u32 (z.k : Int), .int .i64 (z.n : Int), .int .i64 z.v] 45)).heap[wr.heap.size]? = some (.cells #[.int .u32 (z.k : Int), .int .i64 (z.n : Int), .int .i64 z.v] 45)) := blk_new wr _
                  clear HB2 HR2 d0 d1 d2 lg
                  generalize wr.alloc _ = Wc at *
                  generalize wr.heap.size = LB at *
                  obtain ⟨rfl, rfl, rfl⟩ := Hzz.out
                  have HXc := hidMk (blk_on H5.out.2.2.2 HBc.out)
                  have OA := hidMk (H5.out.1.on HBc.out)
                  clear HBc H5
                  refine (awakeC _).mono ?_
                  rintro e WA ⟨rfl, hb⟩
                  have OB := hidMk (OA.out.on hb)
                  obtain ⟨x0, x1, x2⟩ : WA.cell? ⟨XB, 0, none⟩ = some (#[.int .u32 (z.k : Int), .int .i64 (z.n : Int), .int .i64 z.v][0]) ∧ WA.cell? ⟨XB, 1, none⟩ = some (#[.int .u32 (z.k : Int), .int .i64 (z.n : Int), .int .i64 z.v][1]) ∧ WA.cell? ⟨XB, 2, none⟩ = some (#[.int .u32 (z.k : Int), .int .i64 (z.n : Int), .int .i64 z.v][2]) := ⟨blk_cell (blk_on HXc.out hb) rfl, blk_cell (blk_on HXc.out hb) rfl, blk_cell (blk_on HXc.out hb) rfl⟩
                  obtain ⟨y0, y1, y2⟩ : WA.cell? ⟨LB, 0, none⟩ = some (#[.int .u32 (z.k : Int), .int .i64 (z.n : Int), .int .i64 z.v][0]) ∧ WA.cell? ⟨LB, 1, none⟩ = some (#[.int .u32 (z.k : Int), .int .i64 (z.n : Int), .int .i64 z.v][1]) ∧ WA.cell? ⟨LB, 2, none⟩ = some (#[.int .u32 (z.k : Int), .int .i64 (z.n : Int), .int .i64 z.v][2]) := ⟨blk_cell (blk_on HLc.out hb) rfl, blk_cell (blk_on HLc.out hb) rfl, blk_cell (blk_on HLc.out hb) rfl⟩
                  simp only [List.getElem_toArray, List.getElem_cons_succ, List.getElem_cons_zero] at x0 x1 x2 y0 y1 y2
                  clear hb OA HXc HLc
                  have hnod := fun W (h : Own w W t v 8 1048576 L ar) => nodesC t v 8 1048576 L ar W h.tr
                  have haren := fun W (h : Own w W t v 8 1048576 L ar) => arenaC t v 8 1048576 L ar W h.tr
                  obtain ⟨n1, n2, n3⟩ := own_cnt OB.out
                  rw [← Hm.out] at n1
                  obtain ⟨cn, hcn⟩ : ∃ c, c = cntL 8 0 none L := ⟨_, rfl⟩
                  rw [← hcn] at n1 n2 hnod
                  clear hcn
                  have n1' : (m : Int) ≤ (cn : Int) := by omega
                  have n2' : (cn : Int) ≤ (ar : Int) := by omega
                  go_wp2_with (fail)
                  refine (hnod _ OB.out).mono ?_
                  rintro e w9 ⟨rfl, hw9⟩
                  obtain rfl := hw9.symm
                  clear hw9
                  go_wp2_with (fail)
                  refine (hnod _ OB.out).mono ?_
                  rintro e w9 ⟨rfl, hw9⟩
                  obtain rfl := hw9.symm
                  clear hw9
                  go_wp2_with (fail)
                  refine (haren _ OB.out).mono ?_
                  rintro e w9 ⟨rfl, hw9⟩
                  obtain rfl := hw9.symm
                  clear hw9
                  go_wp2_with (fail)
                  go_ret
                  exact ⟨rfl, OB.out.be⟩
        · as_aux_lemma =>
            have hb1 : bo = false := by rw [Hbo.out]; unfold anyE; cases hD2 : D with | cons => (have := Hm9.out; rw [hD2] at this; simp at this; omega) | nil => rfl
            subst hb1
            have h0' : ¬ (0 : Int) < (m9 : Int) := by omega
            go_wp2_with (fail)
            go_loopw [16] (fun s16 wq => ∃ j : Nat, j ≤ m9 ∧ s16 = .int .i64 (j : Int) ∧ Hid (Below W5.heap.size W5 wq) ∧ Hid (RowE wq W5.heap.size (.slice adw m9 capw) D)) (fun s16 _ => m9 - (intOf s16).toNat)
            case atStart => exact ⟨0, Nat.zero_le _, rfl, HB.out, HRd.out⟩
            case round =>
              clear HB HRd HK9 HX
              obtain ⟨j, hj, rfl, HB2, HR2⟩ := hrel
              by_cases hjt : j < m9
              · as_aux_lemma =>
                  have hjl : j < D.length := by rw [← Hm9.out]; exact hjt
                  have hlt2 : (j : Int) < (m9 : Int) := by omega
                  have hix2 : ¬ m9 ≤ j := by omega
                  have hK9 := H5.out.2.2.1.on HB2.out
                  obtain ⟨g9, o9, rfl, hc9⟩ := src_cells hK9.1 (by omega)
                  obtain ⟨gw, ow, rfl, hcw⟩ := src_cells HR2.out.src (by omega)
                  obtain ⟨c0, c1, c2⟩ := hc9 _ hK9.1 j hjl
                  obtain ⟨d0, d1, d2⟩ := hcw _ HR2.out.src j hjl
                  generalize D[j]'hjl = y0 at c0 c1 c2 d0 d1 d2
                  clear hc9 hcw hK9
                  have hwk : IntKind.i64.wrap ((j : Int) + 1) = (j : Int) + 1 := by rw [IntKind.wrap_i64]; omega
                  go_upto_region 23 with (fail)
                  go_quiet (fail)
                  have HR3 := hidMk (HR2.out.on (bel_drewN (Below.refl _ _) nq))
                  have HB3 := hidMk (bel_drewN HB2.out nq)
                  clear HR2 HB2 c0 c1 c2 d0 d1 d2
                  go_wp2_with (fail)
                  go_roundw
                  case rel => exact ⟨j + 1, by omega, by go_num, HB3.out, HR3.out⟩
                  case measure => simp [intOf]; omega
              · as_aux_lemma =>
                  have hlt2 : ¬ (j : Int) < (m9 : Int) := by omega
                  go_wp2_with (fail)
                  have HBc : Hid (Below W5.heap.size W5 (wr.alloc (.cells #[.int .u32 0, .int .i64 0, .int .i64 0] 45))) := HB2.out.trans ((bel_al1 wr _).mono HB2.out.size)
                  have HLc : Hid ((wr.alloc (.cells #[.int .u32 0, .int .i64 0, .int .i64 0] 45)).heap[wr.heap.size]? = some (.cells #[.int .u32 0, .int .i64 0, .int .i64 0] 45)) := blk_new wr _
                  clear HB2 HR2
                  generalize wr.alloc _ = Wc at *
                  generalize wr.heap.size = LB at *
                  have hz0 : zk = 0 ∧ zn = 0 ∧ zv = 0 := by have hD0 : D = [] := List.eq_nil_of_length_eq_zero (by have := Hm9.out; omega); have h1 := Hzz.out; rw [Hz.out, hD0] at h1; exact h1
                  obtain ⟨rfl, rfl, rfl⟩ := hz0
                  have HXc := hidMk (blk_on H5.out.2.2.2 HBc.out)
                  have OA := hidMk (H5.out.1.on HBc.out)
                  clear HBc H5
                  refine (awakeC _).mono ?_
                  rintro e WA ⟨rfl, hb⟩
                  have OB := hidMk (OA.out.on hb)
                  obtain ⟨x0, x1, x2⟩ : WA.cell? ⟨XB, 0, none⟩ = some (#[.int .u32 0, .int .i64 0, .int .i64 0][0]) ∧ WA.cell? ⟨XB, 1, none⟩ = some (#[.int .u32 0, .int .i64 0, .int .i64 0][1]) ∧ WA.cell? ⟨XB, 2, none⟩ = some (#[.int .u32 0, .int .i64 0, .int .i64 0][2]) := ⟨blk_cell (blk_on HXc.out hb) rfl, blk_cell (blk_on HXc.out hb) rfl, blk_cell (blk_on HXc.out hb) rfl⟩
                  obtain ⟨y0, y1, y2⟩ : WA.cell? ⟨LB, 0, none⟩ = some (#[.int .u32 0, .int .i64 0, .int .i64 0][0]) ∧ WA.cell? ⟨LB, 1, none⟩ = some (#[.int .u32 0, .int .i64 0, .int .i64 0][1]) ∧ WA.cell? ⟨LB, 2, none⟩ = some (#[.int .u32 0, .int .i64 0, .int .i64 0][2]) := ⟨blk_cell (blk_on HLc.out hb) rfl, blk_cell (blk_on HLc.out hb) rfl, blk_cell (blk_on HLc.out hb) rfl⟩
                  simp only [List.getElem_toArray, List.getElem_cons_succ, List.getElem_cons_zero] at x0 x1 x2 y0 y1 y2
                  clear hb OA HXc HLc
                  have hnod := fun W (h : Own w W t v 8 1048576 L ar) => nodesC t v 8 1048576 L ar W h.tr
                  have haren := fun W (h : Own w W t v 8 1048576 L ar) => arenaC t v 8 1048576 L ar W h.tr
                  obtain ⟨n1, n2, n3⟩ := own_cnt OB.out
                  rw [← Hm.out] at n1
                  obtain ⟨cn, hcn⟩ : ∃ c, c = cntL 8 0 none L := ⟨_, rfl⟩
                  rw [← hcn] at n1 n2 hnod
                  clear hcn
                  have n1' : (m : Int) ≤ (cn : Int) := by omega
                  have n2' : (cn : Int) ≤ (ar : Int) := by omega
                  go_wp2_with (fail)
                  refine (hnod _ OB.out).mono ?_
                  rintro e w9 ⟨rfl, hw9⟩
                  obtain rfl := hw9.symm
                  clear hw9
                  go_wp2_with (fail)
                  refine (hnod _ OB.out).mono ?_
                  rintro e w9 ⟨rfl, hw9⟩
                  obtain rfl := hw9.symm
                  clear hw9
                  go_wp2_with (fail)
                  refine (haren _ OB.out).mono ?_
                  rintro e w9 ⟨rfl, hw9⟩
                  obtain rfl := hw9.symm
                  clear hw9
                  go_wp2_with (fail)
                  go_ret
                  exact ⟨rfl, OB.out.be⟩
end Go.Proofs.Ytfbkjghipahipaa
