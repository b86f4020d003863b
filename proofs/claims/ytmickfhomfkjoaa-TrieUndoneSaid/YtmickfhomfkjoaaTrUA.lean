/-
  TrieUndone where the width is 8. Written by tools/mkTrL7.py.
-/
import Derived.Test.YtmickfhomfkjoaaTrUq
namespace Go.Proofs.Ytmickfhomfkjoaa
open Go.RowKit Go.Shelf
set_option linter.unusedVariables false
set_option linter.unusedSimpArgs false

set_option maxRecDepth 20000 in
set_option maxHeartbeats 4000000 in
theorem trieUndone_8 (Wi : Int) (l : List Opx) (bd : ∀ R ∈ l, BdO R) (k : Nat) (hk : k < 4294967296) (n : Int) (hn : I64 n) (w : World) (ad : Option Addr) (N cap Wd : Nat) (hl' : ¬ (16777216 : Int) < (N : Int))
    (hp : Calls Try.prog 21 #[.int .i64 Wi, .slice ad N cap] w fun e W' => ∃ t v L ar, e = .returned (.pointer (some ⟨t, 0, none⟩)) ∧ Own w W' t v Wd 1048576 L ar) (hWi : Wi = 8) :
    Calls Try.prog 7 #[.int .i64 Wi, .slice ad N cap, .int .u32 (k : Int), .int .i64 n] w fun e w' => e = .returned (.bool true) ∧ Below w.heap.size w w' := by
  subst hWi
  obtain ⟨hn8, hn9⟩ := hn
  go_enter Try.func7, Try.ntmps7
  go_wp2_with (fail)
  refine hp.mono ?_
  rintro e W1 ⟨t, v, L, ar, rfl, o1⟩
  have O1 := hidMk o1
  clear o1 hp
  go_wp2_with (fail)
  refine (walkC (some ⟨t, 0, none⟩) _).mono ?_
  rintro e w9 ⟨rfl, hw9⟩
  obtain rfl := hw9.symm
  clear hw9
  go_wp2_with (fail)
  refine (told_walk O1.out).mono ?_
  rintro e W2 ⟨rr, rfl, k2, o2, -⟩
  have O2 := hidMk o2
  have K2 := hidMk k2
  clear k2 o2 O1
  obtain ⟨gv, pe, hd, L4, a4, hways, hget, hput⟩ := un_put O2.out k n hk
  have Hput := hidMk hput
  clear hput
  have hcn := cnt_small O2.out
  go_wp2_with (fail)
  refine (nodesC _ _ _ _ _ _ _ O2.out.tr).mono ?_
  rintro e w9 ⟨rfl, hw9⟩
  obtain rfl := hw9.symm
  clear hw9
  go_wp2_with (fail)
  refine (arenaC _ _ _ _ _ _ _ O2.out.tr).mono ?_
  rintro e w9 ⟨rfl, hw9⟩
  obtain rfl := hw9.symm
  clear hw9
  go_wp2_with (fail)
  refine hget.mono ?_
  rintro e W3 ⟨rfl, hb⟩
  have O3 := hidMk (O2.out.on hb)
  have K3 := hidMk (K2.out.on hb)
  clear hb hget O2 K2
  go_wp2_with (fail)
  refine (Hput.out _ O3.out).mono ?_
  rintro e W4 ⟨rfl, v4, o4, m4⟩
  have O4 := hidMk o4
  have K4 := hidMk (K3.out.moved m4)
  clear o4 m4 O3 K3 Hput
  have hcn4 := cnt_small O4.out
  go_wp2_with (fail)
  refine (nodesC _ _ _ _ _ _ _ O4.out.tr).mono ?_
  rintro e w9 ⟨rfl, hw9⟩
  obtain rfl := hw9.symm
  clear hw9
  rcases hways with ⟨rfl, rfl, w1, w2, w3, w4, w5, w6, w7⟩ | ⟨rfl, rfl, w1, w2⟩ | ⟨w0, rfl, w1, w2⟩
  · have hcut : Calls Try.prog 13 #[.pointer (some ⟨t, 0, none⟩), .int .u32 (k : Int), .int .i64 n] W4 fun e W' => e = .returned (.int .i64 0) ∧ ∃ v', Own w W' t v' Wd 1048576 L a4 ∧ Moved W4 W' t v4 v' := by
      have q := own_cut O4.out k n hk
      rw [w1, w2] at q
      exact q
    clear w1 w2
    have hmx : (a4 : Int) = max (ar : Int) (cntL Wd 0 none L4 : Int) := by omega
    have hn1 : ¬ (cntL Wd 0 none L4 : Int) < (cntL Wd 0 none L : Int) := by omega
    have hn1' : ¬ cntL Wd 0 none L4 < cntL Wd 0 none L := by omega
    have hn2 : ¬ (cntL Wd 0 none L : Int) + n + 1 < (cntL Wd 0 none L4 : Int) := by omega
    have hwp1 : IntKind.i64.wrap ((cntL Wd 0 none L : Int) + n) = (cntL Wd 0 none L : Int) + n := by rw [IntKind.wrap_i64]; omega
    have hwp2 : IntKind.i64.wrap ((cntL Wd 0 none L : Int) + n + 1) = (cntL Wd 0 none L : Int) + n + 1 := by rw [IntKind.wrap_i64]; omega
    go_wp2_with (fail)
    refine hcut.mono ?_
    rintro e W5 ⟨rfl, v5, o5, m5⟩
    have O5 := hidMk o5
    have K5 := hidMk (K4.out.moved m5)
    clear o5 m5 O4 K4 hcut
    go_wp2_with (fail)
    refine (nodesC _ _ _ _ _ _ _ O5.out.tr).mono ?_
    rintro e w9 ⟨rfl, hw9⟩
    obtain rfl := hw9.symm
    clear hw9
    go_wp2_with (fail)
    refine (walkC (some ⟨t, 0, none⟩) _).mono ?_
    rintro e w9 ⟨rfl, hw9⟩
    obtain rfl := hw9.symm
    clear hw9
    go_wp2_with (fail)
    refine (same_walk O5.out rr 0 (K5.out.on (bel_al1 _ _)).1 (by decide) (by decide)).mono ?_
    rintro e W6 ⟨rfl, hb⟩
    have O6 := hidMk (O5.out.on hb)
    clear hb O5 K5
    go_wp2_with (fail)
    refine (arenaC _ _ _ _ _ _ _ O6.out.tr).mono ?_
    rintro e w9 ⟨rfl, hw9⟩
    obtain rfl := hw9.symm
    clear hw9
    rcases Nat.lt_trichotomy ar (cntL Wd 0 none L4) with hx | hx | hx
    · have ha : a4 = cntL Wd 0 none L4 := by omega
      subst ha
      have hx1 : (ar : Int) < (cntL Wd 0 none L4 : Int) := by omega
      have hx2 : ¬ (cntL Wd 0 none L4 : Int) < (ar : Int) := by omega
      have hx3 : ¬ cntL Wd 0 none L4 ≤ ar := by omega
      have hx4 : ar ≤ cntL Wd 0 none L4 := by omega
      have hx5 : ¬ cntL Wd 0 none L4 < ar := by omega
      clear w3 hmx
      go_wp2_with (fail)
      refine (walkC (some ⟨t, 0, none⟩) _).mono ?_
      rintro e w9 ⟨rfl, hw9⟩
      obtain rfl := hw9.symm
      clear hw9
      go_wp2_with (fail)
      refine (told_walk O6.out).mono ?_
      rintro e W7 ⟨r7, rfl, k7, o7, -⟩
      have O7 := hidMk o7
      have K7 := hidMk k7
      clear k7 o7 O6
      obtain ⟨ad2, cap2, rfl, hc2, _⟩ := id K7.out.1
      have hm7 : (L).length ≤ 1048576 := own_len O7.out
      obtain ⟨m, hm⟩ : ∃ m, m = (L).length := ⟨_, rfl⟩
      have Hm : Hid (m = (L).length) := hm
      rw [← hm] at hm7 K7 ⊢
      clear hm hc2
      go_wp2_with (fail)
      go_loopw [19] (fun s19 wr => ∃ (i : Nat) (v : Value), i ≤ m ∧ s19 = .int .i64 (i : Int) ∧ Hid (Own w wr t v Wd 1048576 ((L).drop i) (cntL Wd 0 none L4)) ∧ Hid (Kr wr t v (.slice ad2 m cap2) (L))) (fun s19 _ => m - (intOf s19).toNat)
      case atStart => exact ⟨0, _, Nat.zero_le _, rfl, O7.out, K7.out⟩
      case round =>
        clear O7 K7
        obtain ⟨i, v8, hi, rfl, HO, HK⟩ := hrel
        by_cases hlt : i < m
        · have hkl : i < (L).length := by rw [← Hm.out]; exact hlt
          have hlt' : (i : Int) < (m : Int) := by omega
          have hix : (i : Int) < (m : Int) := hlt'
          have hix2 : ¬ m ≤ i := by omega
          obtain ⟨g, off, rfl, hcs⟩ := kr_cells HK.out i hkl
          have HD : Hid ((L).drop i = (L)[i]'hkl :: (L).drop (i + 1)) := List.drop_eq_getElem_cons hkl
          have hmy : May Wd ((L)[i]'hkl).k ((L)[i]'hkl).n := HO.out.tr.may (by rw [HD.out]; exact List.mem_cons_self)
          have he0 := kr_word HO.out.hw hmy
          generalize (L)[i]'hkl = e0 at hcs HD hmy he0
          have hcut : Calls Try.prog 13 #[.pointer (some ⟨t, 0, none⟩), .int .u32 (e0.k : Int), .int .i64 (e0.n : Int)] wr.drew fun e W' => e = .returned (.int .i64 0) ∧ ∃ v', Own w W' t v' Wd 1048576 ((L).drop (i + 1)) (cntL Wd 0 none L4) ∧ Moved wr.drew W' t v8 v' := by
            have q := own_cut (HO.out.on ((Below.refl _ _).drew)) e0.k e0.n he0
            rw [HD.out, (cut_head Wd hmy).1, (cut_head Wd hmy).2] at q
            exact q
          have Hcs : Hid (∀ W v, Kr W t v (.slice (some ⟨g, off, none⟩) m cap2) (L) → W.cell? ⟨g, off + i * 3, none⟩ = some (.int .u32 (e0.k : Int)) ∧ W.cell? ⟨g, off + i * 3 + 1, none⟩ = some (.int .i64 (e0.n : Int))) := hcs
          clear hcs HD hmy
          have hwk : IntKind.i64.wrap ((i : Int) + 1) = (i : Int) + 1 := by rw [IntKind.wrap_i64]; omega
          go_upto_region 24 with (fail)
          refine wp_region_held_drew (S := fun w' => w'.cell? ⟨g, off + i * 3, none⟩ = some (.int .u32 (e0.k : Int)) ∧ w'.cell? ⟨g, off + i * 3 + 1, none⟩ = some (.int .i64 (e0.n : Int))) (by kernel_rfl) (Hcs.out _ _ (HK.out.on ((Below.refl _ _).drew))) (fun hS1 => ?_)
          show wpAnyH _ _ _ _ _ 13 _ _ _
          refine wpAnyH_take (i := 0) (v := .pointer (some ⟨t, 0, none⟩)) rfl (by kernel_rfl) (by kernel_rfl) (by kernel_rfl) (fun _ _ _ h => h) (.inl ⟨rfl, fun _ _ => by simp [execOp, go_sem]⟩) hS1 ?_
          simp only [List.getElem_toArray, List.getElem_cons_succ, List.getElem_cons_zero, Act.put, List.setIfInBounds_toArray, List.set_cons_zero, List.set_cons_succ]
          refine wpAnyH_take (i := 1) (v := .slice (some ⟨g, off, none⟩) m cap2) rfl (by kernel_rfl) (by kernel_rfl) (by kernel_rfl) (fun _ _ _ h => h) (.inl ⟨rfl, fun _ _ => by simp [execOp, go_sem]⟩) hS1 ?_
          simp only [List.getElem_toArray, List.getElem_cons_succ, List.getElem_cons_zero, Act.put, List.setIfInBounds_toArray, List.set_cons_zero, List.set_cons_succ]
          refine wpAnyH_take (i := 2) (v := .int .i64 (i : Int)) rfl (by kernel_rfl) (by kernel_rfl) (by kernel_rfl) (fun _ _ _ h => h) (.inl ⟨rfl, fun _ _ => by simp [execOp, go_sem]⟩) hS1 ?_
          simp only [List.getElem_toArray, List.getElem_cons_succ, List.getElem_cons_zero, Act.put, List.setIfInBounds_toArray, List.set_cons_zero, List.set_cons_succ]
          refine wpAnyH_take (i := 3) (v := .pointer (some ⟨g, off + i * 3, none⟩)) rfl (by kernel_rfl) (by kernel_rfl) (by kernel_rfl) (fun _ _ _ h => h) (yieldsIf_index rfl 46 (.tmp 152) (.tmp 153) rfl _ (fun w => by simp [Instr.indexAt, go_sem, hix, hix2])) hS1 ?_
          simp only [List.getElem_toArray, List.getElem_cons_succ, List.getElem_cons_zero, Act.put, List.setIfInBounds_toArray, List.set_cons_zero, List.set_cons_succ]
          refine wpAnyH_take (i := 4) (v := .pointer (some ⟨g, off + i * 3, none⟩)) rfl (by kernel_rfl) (by kernel_rfl) (by kernel_rfl) (fun _ _ _ h => h) (.inl ⟨rfl, fun _ _ => by simp [execOp, go_sem]⟩) hS1 ?_
          simp only [List.getElem_toArray, List.getElem_cons_succ, List.getElem_cons_zero, Act.put, List.setIfInBounds_toArray, List.set_cons_zero, List.set_cons_succ]
          refine wpAnyH_take (i := 5) (v := .int .u32 (e0.k : Int)) rfl (by kernel_rfl) (by kernel_rfl) (by kernel_rfl) (fun _ _ _ h => h) (.inl ⟨rfl, fun w' hw' => by have hcc := hw'.1; simp [execOp, go_sem, hcc]⟩) hS1 ?_
          simp only [List.getElem_toArray, List.getElem_cons_succ, List.getElem_cons_zero, Act.put, List.setIfInBounds_toArray, List.set_cons_zero, List.set_cons_succ]
          refine wpAnyH_take (i := 6) (v := .slice (some ⟨g, off, none⟩) m cap2) rfl (by kernel_rfl) (by kernel_rfl) (by kernel_rfl) (fun _ _ _ h => h) (.inl ⟨rfl, fun _ _ => by simp [execOp, go_sem]⟩) hS1 ?_
          simp only [List.getElem_toArray, List.getElem_cons_succ, List.getElem_cons_zero, Act.put, List.setIfInBounds_toArray, List.set_cons_zero, List.set_cons_succ]
          refine wpAnyH_take (i := 7) (v := .int .i64 (i : Int)) rfl (by kernel_rfl) (by kernel_rfl) (by kernel_rfl) (fun _ _ _ h => h) (.inl ⟨rfl, fun _ _ => by simp [execOp, go_sem]⟩) hS1 ?_
          simp only [List.getElem_toArray, List.getElem_cons_succ, List.getElem_cons_zero, Act.put, List.setIfInBounds_toArray, List.set_cons_zero, List.set_cons_succ]
          refine wpAnyH_take (i := 8) (v := .pointer (some ⟨g, off + i * 3, none⟩)) rfl (by kernel_rfl) (by kernel_rfl) (by kernel_rfl) (fun _ _ _ h => h) (yieldsIf_index rfl 46 (.tmp 157) (.tmp 158) rfl _ (fun w => by simp [Instr.indexAt, go_sem, hix, hix2])) hS1 ?_
          simp only [List.getElem_toArray, List.getElem_cons_succ, List.getElem_cons_zero, Act.put, List.setIfInBounds_toArray, List.set_cons_zero, List.set_cons_succ]
          refine wpAnyH_take (i := 9) (v := .pointer (some ⟨g, off + i * 3 + 1, none⟩)) rfl (by kernel_rfl) (by kernel_rfl) (by kernel_rfl) (fun _ _ _ h => h) (.inl ⟨rfl, fun _ _ => by simp [execOp, go_sem]⟩) hS1 ?_
          simp only [List.getElem_toArray, List.getElem_cons_succ, List.getElem_cons_zero, Act.put, List.setIfInBounds_toArray, List.set_cons_zero, List.set_cons_succ]
          refine wpAnyH_take (i := 10) (v := .int .i64 (e0.n : Int)) rfl (by kernel_rfl) (by kernel_rfl) (by kernel_rfl) (fun _ _ _ h => h) (.inl ⟨rfl, fun w' hw' => by have hcc := hw'.2; simp [execOp, go_sem, hcc]⟩) hS1 ?_
          simp only [List.getElem_toArray, List.getElem_cons_succ, List.getElem_cons_zero, Act.put, List.setIfInBounds_toArray, List.set_cons_zero, List.set_cons_succ]
          refine wpAnyH_all (rs := [11]) (by kernel_rfl) (by simp) ?_
          intro i hi
          simp only [List.mem_cons, List.not_mem_nil, or_false] at hi
          subst hi
          refine wpOp_of_wp rfl rfl (fun K' hK' => ?_)
          go_wp2_with (go_at_call 13; refine hcut.mono ?_; rintro e W9 ⟨rfl, v9, o9, m9⟩)
          have O9 := hidMk o9
          have K9 := hidMk ((HK.out.on ((Below.refl _ _).drew)).moved m9)
          have hS3 := Hcs.out _ _ K9.out
          refine ⟨hS3, ?_⟩
          refine wpAnyH_take (i := 12) (v := .int .i64 0) rfl (by kernel_rfl) (by kernel_rfl) (by kernel_rfl) (fun _ _ _ h => h) (.inl ⟨rfl, fun _ _ => by simp [execOp, go_sem]⟩) hS3 ?_
          simp only [List.getElem_toArray, List.getElem_cons_succ, List.getElem_cons_zero, Act.put, List.setIfInBounds_toArray, List.set_cons_zero, List.set_cons_succ]
          refine wpAnyH_done (by kernel_rfl) ?_ _
          clear hS1 hS3 o9 m9 HO HK hcut
          go_wp2_with (fail)
          go_roundw
          case rel => exact ⟨i + 1, v9, by omega, by go_num, O9.out, K9.out⟩
          case measure => simp [intOf]; omega
        · have hlt' : ¬ (i : Int) < (m : Int) := by omega
          have O8 : Hid (Own w wr t v8 Wd 1048576 [] (cntL Wd 0 none L4)) := by
            have e : (L).drop i = [] := List.drop_of_length_le (by have := Hm.out; omega)
            have q := HO.out
            rw [e] at q
            exact q
          clear HO HK
          go_wp2_with (fail)
          refine (awakeC _).mono ?_
          rintro e WA ⟨rfl, hb⟩
          have OA := hidMk (O8.out.on hb)
          clear hb O8
          go_wp2_with (fail)
          refine (nodesC _ _ _ _ _ _ _ OA.out.tr).mono ?_
          rintro e w9 ⟨rfl, hw9⟩
          obtain rfl := hw9.symm
          clear hw9
          go_wp2_with (fail)
          refine (walkC (some ⟨t, 0, none⟩) _).mono ?_
          rintro e w9 ⟨rfl, hw9⟩
          obtain rfl := hw9.symm
          clear hw9
          go_wp2_with (fail)
          refine (same_walk OA.out (.slice none 0 0) 0 (RowE.nil _ 0).src (by decide) (by decide)).mono ?_
          rintro e WB ⟨rfl, hb⟩
          have HBB : Hid (Below w.heap.size w WB) := (OA.out.on hb).be
          clear hb OA
          go_wp2_with (fail)
          go_ret
          exact ⟨rfl, HBB.out⟩
    · have ha : a4 = ar := by omega
      subst ha
      have hx1 : ¬ (a4 : Int) < (cntL Wd 0 none L4 : Int) := by omega
      have hx2 : ¬ (cntL Wd 0 none L4 : Int) < (a4 : Int) := by omega
      have hx3 : cntL Wd 0 none L4 ≤ a4 := by omega
      have hx4 : a4 ≤ cntL Wd 0 none L4 := by omega
      have hx6 : ¬ cntL Wd 0 none L4 < a4 := by omega
      have hx5 : (a4 : Int) = (cntL Wd 0 none L4 : Int) := by omega
      clear w3 hmx
      go_wp2_with (fail)
      refine (walkC (some ⟨t, 0, none⟩) _).mono ?_
      rintro e w9 ⟨rfl, hw9⟩
      obtain rfl := hw9.symm
      clear hw9
      go_wp2_with (fail)
      refine (told_walk O6.out).mono ?_
      rintro e W7 ⟨r7, rfl, k7, o7, -⟩
      have O7 := hidMk o7
      have K7 := hidMk k7
      clear k7 o7 O6
      obtain ⟨ad2, cap2, rfl, hc2, _⟩ := id K7.out.1
      have hm7 : (L).length ≤ 1048576 := own_len O7.out
      obtain ⟨m, hm⟩ : ∃ m, m = (L).length := ⟨_, rfl⟩
      have Hm : Hid (m = (L).length) := hm
      rw [← hm] at hm7 K7 ⊢
      clear hm hc2
      go_wp2_with (fail)
      go_loopw [19] (fun s19 wr => ∃ (i : Nat) (v : Value), i ≤ m ∧ s19 = .int .i64 (i : Int) ∧ Hid (Own w wr t v Wd 1048576 ((L).drop i) a4) ∧ Hid (Kr wr t v (.slice ad2 m cap2) (L))) (fun s19 _ => m - (intOf s19).toNat)
      case atStart => exact ⟨0, _, Nat.zero_le _, rfl, O7.out, K7.out⟩
      case round =>
        clear O7 K7
        obtain ⟨i, v8, hi, rfl, HO, HK⟩ := hrel
        by_cases hlt : i < m
        · have hkl : i < (L).length := by rw [← Hm.out]; exact hlt
          have hlt' : (i : Int) < (m : Int) := by omega
          have hix : (i : Int) < (m : Int) := hlt'
          have hix2 : ¬ m ≤ i := by omega
          obtain ⟨g, off, rfl, hcs⟩ := kr_cells HK.out i hkl
          have HD : Hid ((L).drop i = (L)[i]'hkl :: (L).drop (i + 1)) := List.drop_eq_getElem_cons hkl
          have hmy : May Wd ((L)[i]'hkl).k ((L)[i]'hkl).n := HO.out.tr.may (by rw [HD.out]; exact List.mem_cons_self)
          have he0 := kr_word HO.out.hw hmy
          generalize (L)[i]'hkl = e0 at hcs HD hmy he0
          have hcut : Calls Try.prog 13 #[.pointer (some ⟨t, 0, none⟩), .int .u32 (e0.k : Int), .int .i64 (e0.n : Int)] wr.drew fun e W' => e = .returned (.int .i64 0) ∧ ∃ v', Own w W' t v' Wd 1048576 ((L).drop (i + 1)) a4 ∧ Moved wr.drew W' t v8 v' := by
            have q := own_cut (HO.out.on ((Below.refl _ _).drew)) e0.k e0.n he0
            rw [HD.out, (cut_head Wd hmy).1, (cut_head Wd hmy).2] at q
            exact q
          have Hcs : Hid (∀ W v, Kr W t v (.slice (some ⟨g, off, none⟩) m cap2) (L) → W.cell? ⟨g, off + i * 3, none⟩ = some (.int .u32 (e0.k : Int)) ∧ W.cell? ⟨g, off + i * 3 + 1, none⟩ = some (.int .i64 (e0.n : Int))) := hcs
          clear hcs HD hmy
          have hwk : IntKind.i64.wrap ((i : Int) + 1) = (i : Int) + 1 := by rw [IntKind.wrap_i64]; omega
          go_upto_region 24 with (fail)
          refine wp_region_held_drew (S := fun w' => w'.cell? ⟨g, off + i * 3, none⟩ = some (.int .u32 (e0.k : Int)) ∧ w'.cell? ⟨g, off + i * 3 + 1, none⟩ = some (.int .i64 (e0.n : Int))) (by kernel_rfl) (Hcs.out _ _ (HK.out.on ((Below.refl _ _).drew))) (fun hS1 => ?_)
          show wpAnyH _ _ _ _ _ 13 _ _ _
          refine wpAnyH_take (i := 0) (v := .pointer (some ⟨t, 0, none⟩)) rfl (by kernel_rfl) (by kernel_rfl) (by kernel_rfl) (fun _ _ _ h => h) (.inl ⟨rfl, fun _ _ => by simp [execOp, go_sem]⟩) hS1 ?_
          simp only [List.getElem_toArray, List.getElem_cons_succ, List.getElem_cons_zero, Act.put, List.setIfInBounds_toArray, List.set_cons_zero, List.set_cons_succ]
          refine wpAnyH_take (i := 1) (v := .slice (some ⟨g, off, none⟩) m cap2) rfl (by kernel_rfl) (by kernel_rfl) (by kernel_rfl) (fun _ _ _ h => h) (.inl ⟨rfl, fun _ _ => by simp [execOp, go_sem]⟩) hS1 ?_
          simp only [List.getElem_toArray, List.getElem_cons_succ, List.getElem_cons_zero, Act.put, List.setIfInBounds_toArray, List.set_cons_zero, List.set_cons_succ]
          refine wpAnyH_take (i := 2) (v := .int .i64 (i : Int)) rfl (by kernel_rfl) (by kernel_rfl) (by kernel_rfl) (fun _ _ _ h => h) (.inl ⟨rfl, fun _ _ => by simp [execOp, go_sem]⟩) hS1 ?_
          simp only [List.getElem_toArray, List.getElem_cons_succ, List.getElem_cons_zero, Act.put, List.setIfInBounds_toArray, List.set_cons_zero, List.set_cons_succ]
          refine wpAnyH_take (i := 3) (v := .pointer (some ⟨g, off + i * 3, none⟩)) rfl (by kernel_rfl) (by kernel_rfl) (by kernel_rfl) (fun _ _ _ h => h) (yieldsIf_index rfl 46 (.tmp 152) (.tmp 153) rfl _ (fun w => by simp [Instr.indexAt, go_sem, hix, hix2])) hS1 ?_
          simp only [List.getElem_toArray, List.getElem_cons_succ, List.getElem_cons_zero, Act.put, List.setIfInBounds_toArray, List.set_cons_zero, List.set_cons_succ]
          refine wpAnyH_take (i := 4) (v := .pointer (some ⟨g, off + i * 3, none⟩)) rfl (by kernel_rfl) (by kernel_rfl) (by kernel_rfl) (fun _ _ _ h => h) (.inl ⟨rfl, fun _ _ => by simp [execOp, go_sem]⟩) hS1 ?_
          simp only [List.getElem_toArray, List.getElem_cons_succ, List.getElem_cons_zero, Act.put, List.setIfInBounds_toArray, List.set_cons_zero, List.set_cons_succ]
          refine wpAnyH_take (i := 5) (v := .int .u32 (e0.k : Int)) rfl (by kernel_rfl) (by kernel_rfl) (by kernel_rfl) (fun _ _ _ h => h) (.inl ⟨rfl, fun w' hw' => by have hcc := hw'.1; simp [execOp, go_sem, hcc]⟩) hS1 ?_
          simp only [List.getElem_toArray, List.getElem_cons_succ, List.getElem_cons_zero, Act.put, List.setIfInBounds_toArray, List.set_cons_zero, List.set_cons_succ]
          refine wpAnyH_take (i := 6) (v := .slice (some ⟨g, off, none⟩) m cap2) rfl (by kernel_rfl) (by kernel_rfl) (by kernel_rfl) (fun _ _ _ h => h) (.inl ⟨rfl, fun _ _ => by simp [execOp, go_sem]⟩) hS1 ?_
          simp only [List.getElem_toArray, List.getElem_cons_succ, List.getElem_cons_zero, Act.put, List.setIfInBounds_toArray, List.set_cons_zero, List.set_cons_succ]
          refine wpAnyH_take (i := 7) (v := .int .i64 (i : Int)) rfl (by kernel_rfl) (by kernel_rfl) (by kernel_rfl) (fun _ _ _ h => h) (.inl ⟨rfl, fun _ _ => by simp [execOp, go_sem]⟩) hS1 ?_
          simp only [List.getElem_toArray, List.getElem_cons_succ, List.getElem_cons_zero, Act.put, List.setIfInBounds_toArray, List.set_cons_zero, List.set_cons_succ]
          refine wpAnyH_take (i := 8) (v := .pointer (some ⟨g, off + i * 3, none⟩)) rfl (by kernel_rfl) (by kernel_rfl) (by kernel_rfl) (fun _ _ _ h => h) (yieldsIf_index rfl 46 (.tmp 157) (.tmp 158) rfl _ (fun w => by simp [Instr.indexAt, go_sem, hix, hix2])) hS1 ?_
          simp only [List.getElem_toArray, List.getElem_cons_succ, List.getElem_cons_zero, Act.put, List.setIfInBounds_toArray, List.set_cons_zero, List.set_cons_succ]
          refine wpAnyH_take (i := 9) (v := .pointer (some ⟨g, off + i * 3 + 1, none⟩)) rfl (by kernel_rfl) (by kernel_rfl) (by kernel_rfl) (fun _ _ _ h => h) (.inl ⟨rfl, fun _ _ => by simp [execOp, go_sem]⟩) hS1 ?_
          simp only [List.getElem_toArray, List.getElem_cons_succ, List.getElem_cons_zero, Act.put, List.setIfInBounds_toArray, List.set_cons_zero, List.set_cons_succ]
          refine wpAnyH_take (i := 10) (v := .int .i64 (e0.n : Int)) rfl (by kernel_rfl) (by kernel_rfl) (by kernel_rfl) (fun _ _ _ h => h) (.inl ⟨rfl, fun w' hw' => by have hcc := hw'.2; simp [execOp, go_sem, hcc]⟩) hS1 ?_
          simp only [List.getElem_toArray, List.getElem_cons_succ, List.getElem_cons_zero, Act.put, List.setIfInBounds_toArray, List.set_cons_zero, List.set_cons_succ]
          refine wpAnyH_all (rs := [11]) (by kernel_rfl) (by simp) ?_
          intro i hi
          simp only [List.mem_cons, List.not_mem_nil, or_false] at hi
          subst hi
          refine wpOp_of_wp rfl rfl (fun K' hK' => ?_)
          go_wp2_with (go_at_call 13; refine hcut.mono ?_; rintro e W9 ⟨rfl, v9, o9, m9⟩)
          have O9 := hidMk o9
          have K9 := hidMk ((HK.out.on ((Below.refl _ _).drew)).moved m9)
          have hS3 := Hcs.out _ _ K9.out
          refine ⟨hS3, ?_⟩
          refine wpAnyH_take (i := 12) (v := .int .i64 0) rfl (by kernel_rfl) (by kernel_rfl) (by kernel_rfl) (fun _ _ _ h => h) (.inl ⟨rfl, fun _ _ => by simp [execOp, go_sem]⟩) hS3 ?_
          simp only [List.getElem_toArray, List.getElem_cons_succ, List.getElem_cons_zero, Act.put, List.setIfInBounds_toArray, List.set_cons_zero, List.set_cons_succ]
          refine wpAnyH_done (by kernel_rfl) ?_ _
          clear hS1 hS3 o9 m9 HO HK hcut
          go_wp2_with (fail)
          go_roundw
          case rel => exact ⟨i + 1, v9, by omega, by go_num, O9.out, K9.out⟩
          case measure => simp [intOf]; omega
        · have hlt' : ¬ (i : Int) < (m : Int) := by omega
          have O8 : Hid (Own w wr t v8 Wd 1048576 [] a4) := by
            have e : (L).drop i = [] := List.drop_of_length_le (by have := Hm.out; omega)
            have q := HO.out
            rw [e] at q
            exact q
          clear HO HK
          go_wp2_with (fail)
          refine (awakeC _).mono ?_
          rintro e WA ⟨rfl, hb⟩
          have OA := hidMk (O8.out.on hb)
          clear hb O8
          go_wp2_with (fail)
          refine (nodesC _ _ _ _ _ _ _ OA.out.tr).mono ?_
          rintro e w9 ⟨rfl, hw9⟩
          obtain rfl := hw9.symm
          clear hw9
          go_wp2_with (fail)
          refine (walkC (some ⟨t, 0, none⟩) _).mono ?_
          rintro e w9 ⟨rfl, hw9⟩
          obtain rfl := hw9.symm
          clear hw9
          go_wp2_with (fail)
          refine (same_walk OA.out (.slice none 0 0) 0 (RowE.nil _ 0).src (by decide) (by decide)).mono ?_
          rintro e WB ⟨rfl, hb⟩
          have HBB : Hid (Below w.heap.size w WB) := (OA.out.on hb).be
          clear hb OA
          go_wp2_with (fail)
          go_ret
          exact ⟨rfl, HBB.out⟩
    · have ha : a4 = ar := by omega
      subst ha
      have hx1 : ¬ (a4 : Int) < (cntL Wd 0 none L4 : Int) := by omega
      have hx2 : (cntL Wd 0 none L4 : Int) < (a4 : Int) := by omega
      have hx3 : cntL Wd 0 none L4 ≤ a4 := by omega
      have hx4 : ¬ a4 ≤ cntL Wd 0 none L4 := by omega
      have hx5 : ¬ a4 < cntL Wd 0 none L4 := by omega
      clear w3 hmx
      go_wp2_with (fail)
      refine (walkC (some ⟨t, 0, none⟩) _).mono ?_
      rintro e w9 ⟨rfl, hw9⟩
      obtain rfl := hw9.symm
      clear hw9
      go_wp2_with (fail)
      refine (told_walk O6.out).mono ?_
      rintro e W7 ⟨r7, rfl, k7, o7, -⟩
      have O7 := hidMk o7
      have K7 := hidMk k7
      clear k7 o7 O6
      obtain ⟨ad2, cap2, rfl, hc2, _⟩ := id K7.out.1
      have hm7 : (L).length ≤ 1048576 := own_len O7.out
      obtain ⟨m, hm⟩ : ∃ m, m = (L).length := ⟨_, rfl⟩
      have Hm : Hid (m = (L).length) := hm
      rw [← hm] at hm7 K7 ⊢
      clear hm hc2
      go_wp2_with (fail)
      go_loopw [19] (fun s19 wr => ∃ (i : Nat) (v : Value), i ≤ m ∧ s19 = .int .i64 (i : Int) ∧ Hid (Own w wr t v Wd 1048576 ((L).drop i) a4) ∧ Hid (Kr wr t v (.slice ad2 m cap2) (L))) (fun s19 _ => m - (intOf s19).toNat)
      case atStart => exact ⟨0, _, Nat.zero_le _, rfl, O7.out, K7.out⟩
      case round =>
        clear O7 K7
        obtain ⟨i, v8, hi, rfl, HO, HK⟩ := hrel
        by_cases hlt : i < m
        · have hkl : i < (L).length := by rw [← Hm.out]; exact hlt
          have hlt' : (i : Int) < (m : Int) := by omega
          have hix : (i : Int) < (m : Int) := hlt'
          have hix2 : ¬ m ≤ i := by omega
          obtain ⟨g, off, rfl, hcs⟩ := kr_cells HK.out i hkl
          have HD : Hid ((L).drop i = (L)[i]'hkl :: (L).drop (i + 1)) := List.drop_eq_getElem_cons hkl
          have hmy : May Wd ((L)[i]'hkl).k ((L)[i]'hkl).n := HO.out.tr.may (by rw [HD.out]; exact List.mem_cons_self)
          have he0 := kr_word HO.out.hw hmy
          generalize (L)[i]'hkl = e0 at hcs HD hmy he0
          have hcut : Calls Try.prog 13 #[.pointer (some ⟨t, 0, none⟩), .int .u32 (e0.k : Int), .int .i64 (e0.n : Int)] wr.drew fun e W' => e = .returned (.int .i64 0) ∧ ∃ v', Own w W' t v' Wd 1048576 ((L).drop (i + 1)) a4 ∧ Moved wr.drew W' t v8 v' := by
            have q := own_cut (HO.out.on ((Below.refl _ _).drew)) e0.k e0.n he0
            rw [HD.out, (cut_head Wd hmy).1, (cut_head Wd hmy).2] at q
            exact q
          have Hcs : Hid (∀ W v, Kr W t v (.slice (some ⟨g, off, none⟩) m cap2) (L) → W.cell? ⟨g, off + i * 3, none⟩ = some (.int .u32 (e0.k : Int)) ∧ W.cell? ⟨g, off + i * 3 + 1, none⟩ = some (.int .i64 (e0.n : Int))) := hcs
          clear hcs HD hmy
          have hwk : IntKind.i64.wrap ((i : Int) + 1) = (i : Int) + 1 := by rw [IntKind.wrap_i64]; omega
          go_upto_region 24 with (fail)
          refine wp_region_held_drew (S := fun w' => w'.cell? ⟨g, off + i * 3, none⟩ = some (.int .u32 (e0.k : Int)) ∧ w'.cell? ⟨g, off + i * 3 + 1, none⟩ = some (.int .i64 (e0.n : Int))) (by kernel_rfl) (Hcs.out _ _ (HK.out.on ((Below.refl _ _).drew))) (fun hS1 => ?_)
          show wpAnyH _ _ _ _ _ 13 _ _ _
          refine wpAnyH_take (i := 0) (v := .pointer (some ⟨t, 0, none⟩)) rfl (by kernel_rfl) (by kernel_rfl) (by kernel_rfl) (fun _ _ _ h => h) (.inl ⟨rfl, fun _ _ => by simp [execOp, go_sem]⟩) hS1 ?_
          simp only [List.getElem_toArray, List.getElem_cons_succ, List.getElem_cons_zero, Act.put, List.setIfInBounds_toArray, List.set_cons_zero, List.set_cons_succ]
          refine wpAnyH_take (i := 1) (v := .slice (some ⟨g, off, none⟩) m cap2) rfl (by kernel_rfl) (by kernel_rfl) (by kernel_rfl) (fun _ _ _ h => h) (.inl ⟨rfl, fun _ _ => by simp [execOp, go_sem]⟩) hS1 ?_
          simp only [List.getElem_toArray, List.getElem_cons_succ, List.getElem_cons_zero, Act.put, List.setIfInBounds_toArray, List.set_cons_zero, List.set_cons_succ]
          refine wpAnyH_take (i := 2) (v := .int .i64 (i : Int)) rfl (by kernel_rfl) (by kernel_rfl) (by kernel_rfl) (fun _ _ _ h => h) (.inl ⟨rfl, fun _ _ => by simp [execOp, go_sem]⟩) hS1 ?_
          simp only [List.getElem_toArray, List.getElem_cons_succ, List.getElem_cons_zero, Act.put, List.setIfInBounds_toArray, List.set_cons_zero, List.set_cons_succ]
          refine wpAnyH_take (i := 3) (v := .pointer (some ⟨g, off + i * 3, none⟩)) rfl (by kernel_rfl) (by kernel_rfl) (by kernel_rfl) (fun _ _ _ h => h) (yieldsIf_index rfl 46 (.tmp 152) (.tmp 153) rfl _ (fun w => by simp [Instr.indexAt, go_sem, hix, hix2])) hS1 ?_
          simp only [List.getElem_toArray, List.getElem_cons_succ, List.getElem_cons_zero, Act.put, List.setIfInBounds_toArray, List.set_cons_zero, List.set_cons_succ]
          refine wpAnyH_take (i := 4) (v := .pointer (some ⟨g, off + i * 3, none⟩)) rfl (by kernel_rfl) (by kernel_rfl) (by kernel_rfl) (fun _ _ _ h => h) (.inl ⟨rfl, fun _ _ => by simp [execOp, go_sem]⟩) hS1 ?_
          simp only [List.getElem_toArray, List.getElem_cons_succ, List.getElem_cons_zero, Act.put, List.setIfInBounds_toArray, List.set_cons_zero, List.set_cons_succ]
          refine wpAnyH_take (i := 5) (v := .int .u32 (e0.k : Int)) rfl (by kernel_rfl) (by kernel_rfl) (by kernel_rfl) (fun _ _ _ h => h) (.inl ⟨rfl, fun w' hw' => by have hcc := hw'.1; simp [execOp, go_sem, hcc]⟩) hS1 ?_
          simp only [List.getElem_toArray, List.getElem_cons_succ, List.getElem_cons_zero, Act.put, List.setIfInBounds_toArray, List.set_cons_zero, List.set_cons_succ]
          refine wpAnyH_take (i := 6) (v := .slice (some ⟨g, off, none⟩) m cap2) rfl (by kernel_rfl) (by kernel_rfl) (by kernel_rfl) (fun _ _ _ h => h) (.inl ⟨rfl, fun _ _ => by simp [execOp, go_sem]⟩) hS1 ?_
          simp only [List.getElem_toArray, List.getElem_cons_succ, List.getElem_cons_zero, Act.put, List.setIfInBounds_toArray, List.set_cons_zero, List.set_cons_succ]
          refine wpAnyH_take (i := 7) (v := .int .i64 (i : Int)) rfl (by kernel_rfl) (by kernel_rfl) (by kernel_rfl) (fun _ _ _ h => h) (.inl ⟨rfl, fun _ _ => by simp [execOp, go_sem]⟩) hS1 ?_
          simp only [List.getElem_toArray, List.getElem_cons_succ, List.getElem_cons_zero, Act.put, List.setIfInBounds_toArray, List.set_cons_zero, List.set_cons_succ]
          refine wpAnyH_take (i := 8) (v := .pointer (some ⟨g, off + i * 3, none⟩)) rfl (by kernel_rfl) (by kernel_rfl) (by kernel_rfl) (fun _ _ _ h => h) (yieldsIf_index rfl 46 (.tmp 157) (.tmp 158) rfl _ (fun w => by simp [Instr.indexAt, go_sem, hix, hix2])) hS1 ?_
          simp only [List.getElem_toArray, List.getElem_cons_succ, List.getElem_cons_zero, Act.put, List.setIfInBounds_toArray, List.set_cons_zero, List.set_cons_succ]
          refine wpAnyH_take (i := 9) (v := .pointer (some ⟨g, off + i * 3 + 1, none⟩)) rfl (by kernel_rfl) (by kernel_rfl) (by kernel_rfl) (fun _ _ _ h => h) (.inl ⟨rfl, fun _ _ => by simp [execOp, go_sem]⟩) hS1 ?_
          simp only [List.getElem_toArray, List.getElem_cons_succ, List.getElem_cons_zero, Act.put, List.setIfInBounds_toArray, List.set_cons_zero, List.set_cons_succ]
          refine wpAnyH_take (i := 10) (v := .int .i64 (e0.n : Int)) rfl (by kernel_rfl) (by kernel_rfl) (by kernel_rfl) (fun _ _ _ h => h) (.inl ⟨rfl, fun w' hw' => by have hcc := hw'.2; simp [execOp, go_sem, hcc]⟩) hS1 ?_
          simp only [List.getElem_toArray, List.getElem_cons_succ, List.getElem_cons_zero, Act.put, List.setIfInBounds_toArray, List.set_cons_zero, List.set_cons_succ]
          refine wpAnyH_all (rs := [11]) (by kernel_rfl) (by simp) ?_
          intro i hi
          simp only [List.mem_cons, List.not_mem_nil, or_false] at hi
          subst hi
          refine wpOp_of_wp rfl rfl (fun K' hK' => ?_)
          go_wp2_with (go_at_call 13; refine hcut.mono ?_; rintro e W9 ⟨rfl, v9, o9, m9⟩)
          have O9 := hidMk o9
          have K9 := hidMk ((HK.out.on ((Below.refl _ _).drew)).moved m9)
          have hS3 := Hcs.out _ _ K9.out
          refine ⟨hS3, ?_⟩
          refine wpAnyH_take (i := 12) (v := .int .i64 0) rfl (by kernel_rfl) (by kernel_rfl) (by kernel_rfl) (fun _ _ _ h => h) (.inl ⟨rfl, fun _ _ => by simp [execOp, go_sem]⟩) hS3 ?_
          simp only [List.getElem_toArray, List.getElem_cons_succ, List.getElem_cons_zero, Act.put, List.setIfInBounds_toArray, List.set_cons_zero, List.set_cons_succ]
          refine wpAnyH_done (by kernel_rfl) ?_ _
          clear hS1 hS3 o9 m9 HO HK hcut
          go_wp2_with (fail)
          go_roundw
          case rel => exact ⟨i + 1, v9, by omega, by go_num, O9.out, K9.out⟩
          case measure => simp [intOf]; omega
        · have hlt' : ¬ (i : Int) < (m : Int) := by omega
          have O8 : Hid (Own w wr t v8 Wd 1048576 [] a4) := by
            have e : (L).drop i = [] := List.drop_of_length_le (by have := Hm.out; omega)
            have q := HO.out
            rw [e] at q
            exact q
          clear HO HK
          go_wp2_with (fail)
          refine (awakeC _).mono ?_
          rintro e WA ⟨rfl, hb⟩
          have OA := hidMk (O8.out.on hb)
          clear hb O8
          go_wp2_with (fail)
          refine (nodesC _ _ _ _ _ _ _ OA.out.tr).mono ?_
          rintro e w9 ⟨rfl, hw9⟩
          obtain rfl := hw9.symm
          clear hw9
          go_wp2_with (fail)
          refine (walkC (some ⟨t, 0, none⟩) _).mono ?_
          rintro e w9 ⟨rfl, hw9⟩
          obtain rfl := hw9.symm
          clear hw9
          go_wp2_with (fail)
          refine (same_walk OA.out (.slice none 0 0) 0 (RowE.nil _ 0).src (by decide) (by decide)).mono ?_
          rintro e WB ⟨rfl, hb⟩
          have HBB : Hid (Below w.heap.size w WB) := (OA.out.on hb).be
          clear hb OA
          go_wp2_with (fail)
          go_ret
          exact ⟨rfl, HBB.out⟩
  · clear K4
    rw [w1] at hcn4 ⊢
    have O4b : Hid (Own w W4 t v4 Wd 1048576 L4 ar) := by rw [← w2]; exact O4.out
    rw [w2] at O4
    clear w1 w2 O4
    go_wp2_with (fail)
    refine (arenaC _ _ _ _ _ _ _ O4b.out.tr).mono ?_
    rintro e w9 ⟨rfl, hw9⟩
    obtain rfl := hw9.symm
    clear hw9
    go_wp2_with (fail)
    refine (walkC (some ⟨t, 0, none⟩) _).mono ?_
    rintro e w9 ⟨rfl, hw9⟩
    obtain rfl := hw9.symm
    clear hw9
    go_wp2_with (fail)
    refine (told_walk O4b.out).mono ?_
    rintro e W7 ⟨r7, rfl, k7, o7, -⟩
    have O7 := hidMk o7
    have K7 := hidMk k7
    clear k7 o7 O4b
    obtain ⟨ad2, cap2, rfl, hc2, _⟩ := id K7.out.1
    have hm7 : (L4).length ≤ 1048576 := own_len O7.out
    obtain ⟨m, hm⟩ : ∃ m, m = (L4).length := ⟨_, rfl⟩
    have Hm : Hid (m = (L4).length) := hm
    rw [← hm] at hm7 K7 ⊢
    clear hm hc2
    go_wp2_with (fail)
    go_loopw [19] (fun s19 wr => ∃ (i : Nat) (v : Value), i ≤ m ∧ s19 = .int .i64 (i : Int) ∧ Hid (Own w wr t v Wd 1048576 ((L4).drop i) ar) ∧ Hid (Kr wr t v (.slice ad2 m cap2) (L4))) (fun s19 _ => m - (intOf s19).toNat)
    case atStart => exact ⟨0, _, Nat.zero_le _, rfl, O7.out, K7.out⟩
    case round =>
      clear O7 K7
      obtain ⟨i, v8, hi, rfl, HO, HK⟩ := hrel
      by_cases hlt : i < m
      · have hkl : i < (L4).length := by rw [← Hm.out]; exact hlt
        have hlt' : (i : Int) < (m : Int) := by omega
        have hix : (i : Int) < (m : Int) := hlt'
        have hix2 : ¬ m ≤ i := by omega
        obtain ⟨g, off, rfl, hcs⟩ := kr_cells HK.out i hkl
        have HD : Hid ((L4).drop i = (L4)[i]'hkl :: (L4).drop (i + 1)) := List.drop_eq_getElem_cons hkl
        have hmy : May Wd ((L4)[i]'hkl).k ((L4)[i]'hkl).n := HO.out.tr.may (by rw [HD.out]; exact List.mem_cons_self)
        have he0 := kr_word HO.out.hw hmy
        generalize (L4)[i]'hkl = e0 at hcs HD hmy he0
        have hcut : Calls Try.prog 13 #[.pointer (some ⟨t, 0, none⟩), .int .u32 (e0.k : Int), .int .i64 (e0.n : Int)] wr.drew fun e W' => e = .returned (.int .i64 0) ∧ ∃ v', Own w W' t v' Wd 1048576 ((L4).drop (i + 1)) ar ∧ Moved wr.drew W' t v8 v' := by
          have q := own_cut (HO.out.on ((Below.refl _ _).drew)) e0.k e0.n he0
          rw [HD.out, (cut_head Wd hmy).1, (cut_head Wd hmy).2] at q
          exact q
        have Hcs : Hid (∀ W v, Kr W t v (.slice (some ⟨g, off, none⟩) m cap2) (L4) → W.cell? ⟨g, off + i * 3, none⟩ = some (.int .u32 (e0.k : Int)) ∧ W.cell? ⟨g, off + i * 3 + 1, none⟩ = some (.int .i64 (e0.n : Int))) := hcs
        clear hcs HD hmy
        have hwk : IntKind.i64.wrap ((i : Int) + 1) = (i : Int) + 1 := by rw [IntKind.wrap_i64]; omega
        go_upto_region 24 with (fail)
        refine wp_region_held_drew (S := fun w' => w'.cell? ⟨g, off + i * 3, none⟩ = some (.int .u32 (e0.k : Int)) ∧ w'.cell? ⟨g, off + i * 3 + 1, none⟩ = some (.int .i64 (e0.n : Int))) (by kernel_rfl) (Hcs.out _ _ (HK.out.on ((Below.refl _ _).drew))) (fun hS1 => ?_)
        show wpAnyH _ _ _ _ _ 13 _ _ _
        refine wpAnyH_take (i := 0) (v := .pointer (some ⟨t, 0, none⟩)) rfl (by kernel_rfl) (by kernel_rfl) (by kernel_rfl) (fun _ _ _ h => h) (.inl ⟨rfl, fun _ _ => by simp [execOp, go_sem]⟩) hS1 ?_
        simp only [List.getElem_toArray, List.getElem_cons_succ, List.getElem_cons_zero, Act.put, List.setIfInBounds_toArray, List.set_cons_zero, List.set_cons_succ]
        refine wpAnyH_take (i := 1) (v := .slice (some ⟨g, off, none⟩) m cap2) rfl (by kernel_rfl) (by kernel_rfl) (by kernel_rfl) (fun _ _ _ h => h) (.inl ⟨rfl, fun _ _ => by simp [execOp, go_sem]⟩) hS1 ?_
        simp only [List.getElem_toArray, List.getElem_cons_succ, List.getElem_cons_zero, Act.put, List.setIfInBounds_toArray, List.set_cons_zero, List.set_cons_succ]
        refine wpAnyH_take (i := 2) (v := .int .i64 (i : Int)) rfl (by kernel_rfl) (by kernel_rfl) (by kernel_rfl) (fun _ _ _ h => h) (.inl ⟨rfl, fun _ _ => by simp [execOp, go_sem]⟩) hS1 ?_
        simp only [List.getElem_toArray, List.getElem_cons_succ, List.getElem_cons_zero, Act.put, List.setIfInBounds_toArray, List.set_cons_zero, List.set_cons_succ]
        refine wpAnyH_take (i := 3) (v := .pointer (some ⟨g, off + i * 3, none⟩)) rfl (by kernel_rfl) (by kernel_rfl) (by kernel_rfl) (fun _ _ _ h => h) (yieldsIf_index rfl 46 (.tmp 152) (.tmp 153) rfl _ (fun w => by simp [Instr.indexAt, go_sem, hix, hix2])) hS1 ?_
        simp only [List.getElem_toArray, List.getElem_cons_succ, List.getElem_cons_zero, Act.put, List.setIfInBounds_toArray, List.set_cons_zero, List.set_cons_succ]
        refine wpAnyH_take (i := 4) (v := .pointer (some ⟨g, off + i * 3, none⟩)) rfl (by kernel_rfl) (by kernel_rfl) (by kernel_rfl) (fun _ _ _ h => h) (.inl ⟨rfl, fun _ _ => by simp [execOp, go_sem]⟩) hS1 ?_
        simp only [List.getElem_toArray, List.getElem_cons_succ, List.getElem_cons_zero, Act.put, List.setIfInBounds_toArray, List.set_cons_zero, List.set_cons_succ]
        refine wpAnyH_take (i := 5) (v := .int .u32 (e0.k : Int)) rfl (by kernel_rfl) (by kernel_rfl) (by kernel_rfl) (fun _ _ _ h => h) (.inl ⟨rfl, fun w' hw' => by have hcc := hw'.1; simp [execOp, go_sem, hcc]⟩) hS1 ?_
        simp only [List.getElem_toArray, List.getElem_cons_succ, List.getElem_cons_zero, Act.put, List.setIfInBounds_toArray, List.set_cons_zero, List.set_cons_succ]
        refine wpAnyH_take (i := 6) (v := .slice (some ⟨g, off, none⟩) m cap2) rfl (by kernel_rfl) (by kernel_rfl) (by kernel_rfl) (fun _ _ _ h => h) (.inl ⟨rfl, fun _ _ => by simp [execOp, go_sem]⟩) hS1 ?_
        simp only [List.getElem_toArray, List.getElem_cons_succ, List.getElem_cons_zero, Act.put, List.setIfInBounds_toArray, List.set_cons_zero, List.set_cons_succ]
        refine wpAnyH_take (i := 7) (v := .int .i64 (i : Int)) rfl (by kernel_rfl) (by kernel_rfl) (by kernel_rfl) (fun _ _ _ h => h) (.inl ⟨rfl, fun _ _ => by simp [execOp, go_sem]⟩) hS1 ?_
        simp only [List.getElem_toArray, List.getElem_cons_succ, List.getElem_cons_zero, Act.put, List.setIfInBounds_toArray, List.set_cons_zero, List.set_cons_succ]
        refine wpAnyH_take (i := 8) (v := .pointer (some ⟨g, off + i * 3, none⟩)) rfl (by kernel_rfl) (by kernel_rfl) (by kernel_rfl) (fun _ _ _ h => h) (yieldsIf_index rfl 46 (.tmp 157) (.tmp 158) rfl _ (fun w => by simp [Instr.indexAt, go_sem, hix, hix2])) hS1 ?_
        simp only [List.getElem_toArray, List.getElem_cons_succ, List.getElem_cons_zero, Act.put, List.setIfInBounds_toArray, List.set_cons_zero, List.set_cons_succ]
        refine wpAnyH_take (i := 9) (v := .pointer (some ⟨g, off + i * 3 + 1, none⟩)) rfl (by kernel_rfl) (by kernel_rfl) (by kernel_rfl) (fun _ _ _ h => h) (.inl ⟨rfl, fun _ _ => by simp [execOp, go_sem]⟩) hS1 ?_
        simp only [List.getElem_toArray, List.getElem_cons_succ, List.getElem_cons_zero, Act.put, List.setIfInBounds_toArray, List.set_cons_zero, List.set_cons_succ]
        refine wpAnyH_take (i := 10) (v := .int .i64 (e0.n : Int)) rfl (by kernel_rfl) (by kernel_rfl) (by kernel_rfl) (fun _ _ _ h => h) (.inl ⟨rfl, fun w' hw' => by have hcc := hw'.2; simp [execOp, go_sem, hcc]⟩) hS1 ?_
        simp only [List.getElem_toArray, List.getElem_cons_succ, List.getElem_cons_zero, Act.put, List.setIfInBounds_toArray, List.set_cons_zero, List.set_cons_succ]
        refine wpAnyH_all (rs := [11]) (by kernel_rfl) (by simp) ?_
        intro i hi
        simp only [List.mem_cons, List.not_mem_nil, or_false] at hi
        subst hi
        refine wpOp_of_wp rfl rfl (fun K' hK' => ?_)
        go_wp2_with (go_at_call 13; refine hcut.mono ?_; rintro e W9 ⟨rfl, v9, o9, m9⟩)
        have O9 := hidMk o9
        have K9 := hidMk ((HK.out.on ((Below.refl _ _).drew)).moved m9)
        have hS3 := Hcs.out _ _ K9.out
        refine ⟨hS3, ?_⟩
        refine wpAnyH_take (i := 12) (v := .int .i64 0) rfl (by kernel_rfl) (by kernel_rfl) (by kernel_rfl) (fun _ _ _ h => h) (.inl ⟨rfl, fun _ _ => by simp [execOp, go_sem]⟩) hS3 ?_
        simp only [List.getElem_toArray, List.getElem_cons_succ, List.getElem_cons_zero, Act.put, List.setIfInBounds_toArray, List.set_cons_zero, List.set_cons_succ]
        refine wpAnyH_done (by kernel_rfl) ?_ _
        clear hS1 hS3 o9 m9 HO HK hcut
        go_wp2_with (fail)
        go_roundw
        case rel => exact ⟨i + 1, v9, by omega, by go_num, O9.out, K9.out⟩
        case measure => simp [intOf]; omega
      · have hlt' : ¬ (i : Int) < (m : Int) := by omega
        have O8 : Hid (Own w wr t v8 Wd 1048576 [] ar) := by
          have e : (L4).drop i = [] := List.drop_of_length_le (by have := Hm.out; omega)
          have q := HO.out
          rw [e] at q
          exact q
        clear HO HK
        go_wp2_with (fail)
        refine (awakeC _).mono ?_
        rintro e WA ⟨rfl, hb⟩
        have OA := hidMk (O8.out.on hb)
        clear hb O8
        go_wp2_with (fail)
        refine (nodesC _ _ _ _ _ _ _ OA.out.tr).mono ?_
        rintro e w9 ⟨rfl, hw9⟩
        obtain rfl := hw9.symm
        clear hw9
        go_wp2_with (fail)
        refine (walkC (some ⟨t, 0, none⟩) _).mono ?_
        rintro e w9 ⟨rfl, hw9⟩
        obtain rfl := hw9.symm
        clear hw9
        go_wp2_with (fail)
        refine (same_walk OA.out (.slice none 0 0) 0 (RowE.nil _ 0).src (by decide) (by decide)).mono ?_
        rintro e WB ⟨rfl, hb⟩
        have HBB : Hid (Below w.heap.size w WB) := (OA.out.on hb).be
        clear hb OA
        go_wp2_with (fail)
        go_ret
        exact ⟨rfl, HBB.out⟩
  · clear K4
    rw [w1] at hcn4 O4 ⊢
    have O4b : Hid (Own w W4 t v4 Wd 1048576 L ar) := by rw [← w2]; exact O4.out
    clear w1 w2 O4
    rcases w0 with rfl | rfl
    · go_wp2_with (fail)
      refine (walkC (some ⟨t, 0, none⟩) _).mono ?_
      rintro e w9 ⟨rfl, hw9⟩
      obtain rfl := hw9.symm
      clear hw9
      go_wp2_with (fail)
      refine (told_walk O4b.out).mono ?_
      rintro e W7 ⟨r7, rfl, k7, o7, -⟩
      have O7 := hidMk o7
      have K7 := hidMk k7
      clear k7 o7 O4b
      obtain ⟨ad2, cap2, rfl, hc2, _⟩ := id K7.out.1
      have hm7 : (L).length ≤ 1048576 := own_len O7.out
      obtain ⟨m, hm⟩ : ∃ m, m = (L).length := ⟨_, rfl⟩
      have Hm : Hid (m = (L).length) := hm
      rw [← hm] at hm7 K7 ⊢
      clear hm hc2
      go_wp2_with (fail)
      go_loopw [19] (fun s19 wr => ∃ (i : Nat) (v : Value), i ≤ m ∧ s19 = .int .i64 (i : Int) ∧ Hid (Own w wr t v Wd 1048576 ((L).drop i) ar) ∧ Hid (Kr wr t v (.slice ad2 m cap2) (L))) (fun s19 _ => m - (intOf s19).toNat)
      case atStart => exact ⟨0, _, Nat.zero_le _, rfl, O7.out, K7.out⟩
      case round =>
        clear O7 K7
        obtain ⟨i, v8, hi, rfl, HO, HK⟩ := hrel
        by_cases hlt : i < m
        · have hkl : i < (L).length := by rw [← Hm.out]; exact hlt
          have hlt' : (i : Int) < (m : Int) := by omega
          have hix : (i : Int) < (m : Int) := hlt'
          have hix2 : ¬ m ≤ i := by omega
          obtain ⟨g, off, rfl, hcs⟩ := kr_cells HK.out i hkl
          have HD : Hid ((L).drop i = (L)[i]'hkl :: (L).drop (i + 1)) := List.drop_eq_getElem_cons hkl
          have hmy : May Wd ((L)[i]'hkl).k ((L)[i]'hkl).n := HO.out.tr.may (by rw [HD.out]; exact List.mem_cons_self)
          have he0 := kr_word HO.out.hw hmy
          generalize (L)[i]'hkl = e0 at hcs HD hmy he0
          have hcut : Calls Try.prog 13 #[.pointer (some ⟨t, 0, none⟩), .int .u32 (e0.k : Int), .int .i64 (e0.n : Int)] wr.drew fun e W' => e = .returned (.int .i64 0) ∧ ∃ v', Own w W' t v' Wd 1048576 ((L).drop (i + 1)) ar ∧ Moved wr.drew W' t v8 v' := by
            have q := own_cut (HO.out.on ((Below.refl _ _).drew)) e0.k e0.n he0
            rw [HD.out, (cut_head Wd hmy).1, (cut_head Wd hmy).2] at q
            exact q
          have Hcs : Hid (∀ W v, Kr W t v (.slice (some ⟨g, off, none⟩) m cap2) (L) → W.cell? ⟨g, off + i * 3, none⟩ = some (.int .u32 (e0.k : Int)) ∧ W.cell? ⟨g, off + i * 3 + 1, none⟩ = some (.int .i64 (e0.n : Int))) := hcs
          clear hcs HD hmy
          have hwk : IntKind.i64.wrap ((i : Int) + 1) = (i : Int) + 1 := by rw [IntKind.wrap_i64]; omega
          go_upto_region 24 with (fail)
          refine wp_region_held_drew (S := fun w' => w'.cell? ⟨g, off + i * 3, none⟩ = some (.int .u32 (e0.k : Int)) ∧ w'.cell? ⟨g, off + i * 3 + 1, none⟩ = some (.int .i64 (e0.n : Int))) (by kernel_rfl) (Hcs.out _ _ (HK.out.on ((Below.refl _ _).drew))) (fun hS1 => ?_)
          show wpAnyH _ _ _ _ _ 13 _ _ _
          refine wpAnyH_take (i := 0) (v := .pointer (some ⟨t, 0, none⟩)) rfl (by kernel_rfl) (by kernel_rfl) (by kernel_rfl) (fun _ _ _ h => h) (.inl ⟨rfl, fun _ _ => by simp [execOp, go_sem]⟩) hS1 ?_
          simp only [List.getElem_toArray, List.getElem_cons_succ, List.getElem_cons_zero, Act.put, List.setIfInBounds_toArray, List.set_cons_zero, List.set_cons_succ]
          refine wpAnyH_take (i := 1) (v := .slice (some ⟨g, off, none⟩) m cap2) rfl (by kernel_rfl) (by kernel_rfl) (by kernel_rfl) (fun _ _ _ h => h) (.inl ⟨rfl, fun _ _ => by simp [execOp, go_sem]⟩) hS1 ?_
          simp only [List.getElem_toArray, List.getElem_cons_succ, List.getElem_cons_zero, Act.put, List.setIfInBounds_toArray, List.set_cons_zero, List.set_cons_succ]
          refine wpAnyH_take (i := 2) (v := .int .i64 (i : Int)) rfl (by kernel_rfl) (by kernel_rfl) (by kernel_rfl) (fun _ _ _ h => h) (.inl ⟨rfl, fun _ _ => by simp [execOp, go_sem]⟩) hS1 ?_
          simp only [List.getElem_toArray, List.getElem_cons_succ, List.getElem_cons_zero, Act.put, List.setIfInBounds_toArray, List.set_cons_zero, List.set_cons_succ]
          refine wpAnyH_take (i := 3) (v := .pointer (some ⟨g, off + i * 3, none⟩)) rfl (by kernel_rfl) (by kernel_rfl) (by kernel_rfl) (fun _ _ _ h => h) (yieldsIf_index rfl 46 (.tmp 152) (.tmp 153) rfl _ (fun w => by simp [Instr.indexAt, go_sem, hix, hix2])) hS1 ?_
          simp only [List.getElem_toArray, List.getElem_cons_succ, List.getElem_cons_zero, Act.put, List.setIfInBounds_toArray, List.set_cons_zero, List.set_cons_succ]
          refine wpAnyH_take (i := 4) (v := .pointer (some ⟨g, off + i * 3, none⟩)) rfl (by kernel_rfl) (by kernel_rfl) (by kernel_rfl) (fun _ _ _ h => h) (.inl ⟨rfl, fun _ _ => by simp [execOp, go_sem]⟩) hS1 ?_
          simp only [List.getElem_toArray, List.getElem_cons_succ, List.getElem_cons_zero, Act.put, List.setIfInBounds_toArray, List.set_cons_zero, List.set_cons_succ]
          refine wpAnyH_take (i := 5) (v := .int .u32 (e0.k : Int)) rfl (by kernel_rfl) (by kernel_rfl) (by kernel_rfl) (fun _ _ _ h => h) (.inl ⟨rfl, fun w' hw' => by have hcc := hw'.1; simp [execOp, go_sem, hcc]⟩) hS1 ?_
          simp only [List.getElem_toArray, List.getElem_cons_succ, List.getElem_cons_zero, Act.put, List.setIfInBounds_toArray, List.set_cons_zero, List.set_cons_succ]
          refine wpAnyH_take (i := 6) (v := .slice (some ⟨g, off, none⟩) m cap2) rfl (by kernel_rfl) (by kernel_rfl) (by kernel_rfl) (fun _ _ _ h => h) (.inl ⟨rfl, fun _ _ => by simp [execOp, go_sem]⟩) hS1 ?_
          simp only [List.getElem_toArray, List.getElem_cons_succ, List.getElem_cons_zero, Act.put, List.setIfInBounds_toArray, List.set_cons_zero, List.set_cons_succ]
          refine wpAnyH_take (i := 7) (v := .int .i64 (i : Int)) rfl (by kernel_rfl) (by kernel_rfl) (by kernel_rfl) (fun _ _ _ h => h) (.inl ⟨rfl, fun _ _ => by simp [execOp, go_sem]⟩) hS1 ?_
          simp only [List.getElem_toArray, List.getElem_cons_succ, List.getElem_cons_zero, Act.put, List.setIfInBounds_toArray, List.set_cons_zero, List.set_cons_succ]
          refine wpAnyH_take (i := 8) (v := .pointer (some ⟨g, off + i * 3, none⟩)) rfl (by kernel_rfl) (by kernel_rfl) (by kernel_rfl) (fun _ _ _ h => h) (yieldsIf_index rfl 46 (.tmp 157) (.tmp 158) rfl _ (fun w => by simp [Instr.indexAt, go_sem, hix, hix2])) hS1 ?_
          simp only [List.getElem_toArray, List.getElem_cons_succ, List.getElem_cons_zero, Act.put, List.setIfInBounds_toArray, List.set_cons_zero, List.set_cons_succ]
          refine wpAnyH_take (i := 9) (v := .pointer (some ⟨g, off + i * 3 + 1, none⟩)) rfl (by kernel_rfl) (by kernel_rfl) (by kernel_rfl) (fun _ _ _ h => h) (.inl ⟨rfl, fun _ _ => by simp [execOp, go_sem]⟩) hS1 ?_
          simp only [List.getElem_toArray, List.getElem_cons_succ, List.getElem_cons_zero, Act.put, List.setIfInBounds_toArray, List.set_cons_zero, List.set_cons_succ]
          refine wpAnyH_take (i := 10) (v := .int .i64 (e0.n : Int)) rfl (by kernel_rfl) (by kernel_rfl) (by kernel_rfl) (fun _ _ _ h => h) (.inl ⟨rfl, fun w' hw' => by have hcc := hw'.2; simp [execOp, go_sem, hcc]⟩) hS1 ?_
          simp only [List.getElem_toArray, List.getElem_cons_succ, List.getElem_cons_zero, Act.put, List.setIfInBounds_toArray, List.set_cons_zero, List.set_cons_succ]
          refine wpAnyH_all (rs := [11]) (by kernel_rfl) (by simp) ?_
          intro i hi
          simp only [List.mem_cons, List.not_mem_nil, or_false] at hi
          subst hi
          refine wpOp_of_wp rfl rfl (fun K' hK' => ?_)
          go_wp2_with (go_at_call 13; refine hcut.mono ?_; rintro e W9 ⟨rfl, v9, o9, m9⟩)
          have O9 := hidMk o9
          have K9 := hidMk ((HK.out.on ((Below.refl _ _).drew)).moved m9)
          have hS3 := Hcs.out _ _ K9.out
          refine ⟨hS3, ?_⟩
          refine wpAnyH_take (i := 12) (v := .int .i64 0) rfl (by kernel_rfl) (by kernel_rfl) (by kernel_rfl) (fun _ _ _ h => h) (.inl ⟨rfl, fun _ _ => by simp [execOp, go_sem]⟩) hS3 ?_
          simp only [List.getElem_toArray, List.getElem_cons_succ, List.getElem_cons_zero, Act.put, List.setIfInBounds_toArray, List.set_cons_zero, List.set_cons_succ]
          refine wpAnyH_done (by kernel_rfl) ?_ _
          clear hS1 hS3 o9 m9 HO HK hcut
          go_wp2_with (fail)
          go_roundw
          case rel => exact ⟨i + 1, v9, by omega, by go_num, O9.out, K9.out⟩
          case measure => simp [intOf]; omega
        · have hlt' : ¬ (i : Int) < (m : Int) := by omega
          have O8 : Hid (Own w wr t v8 Wd 1048576 [] ar) := by
            have e : (L).drop i = [] := List.drop_of_length_le (by have := Hm.out; omega)
            have q := HO.out
            rw [e] at q
            exact q
          clear HO HK
          go_wp2_with (fail)
          refine (awakeC _).mono ?_
          rintro e WA ⟨rfl, hb⟩
          have OA := hidMk (O8.out.on hb)
          clear hb O8
          go_wp2_with (fail)
          refine (nodesC _ _ _ _ _ _ _ OA.out.tr).mono ?_
          rintro e w9 ⟨rfl, hw9⟩
          obtain rfl := hw9.symm
          clear hw9
          go_wp2_with (fail)
          refine (walkC (some ⟨t, 0, none⟩) _).mono ?_
          rintro e w9 ⟨rfl, hw9⟩
          obtain rfl := hw9.symm
          clear hw9
          go_wp2_with (fail)
          refine (same_walk OA.out (.slice none 0 0) 0 (RowE.nil _ 0).src (by decide) (by decide)).mono ?_
          rintro e WB ⟨rfl, hb⟩
          have HBB : Hid (Below w.heap.size w WB) := (OA.out.on hb).be
          clear hb OA
          go_wp2_with (fail)
          go_ret
          exact ⟨rfl, HBB.out⟩
    · go_wp2_with (fail)
      refine (walkC (some ⟨t, 0, none⟩) _).mono ?_
      rintro e w9 ⟨rfl, hw9⟩
      obtain rfl := hw9.symm
      clear hw9
      go_wp2_with (fail)
      refine (told_walk O4b.out).mono ?_
      rintro e W7 ⟨r7, rfl, k7, o7, -⟩
      have O7 := hidMk o7
      have K7 := hidMk k7
      clear k7 o7 O4b
      obtain ⟨ad2, cap2, rfl, hc2, _⟩ := id K7.out.1
      have hm7 : (L).length ≤ 1048576 := own_len O7.out
      obtain ⟨m, hm⟩ : ∃ m, m = (L).length := ⟨_, rfl⟩
      have Hm : Hid (m = (L).length) := hm
      rw [← hm] at hm7 K7 ⊢
      clear hm hc2
      go_wp2_with (fail)
      go_loopw [19] (fun s19 wr => ∃ (i : Nat) (v : Value), i ≤ m ∧ s19 = .int .i64 (i : Int) ∧ Hid (Own w wr t v Wd 1048576 ((L).drop i) ar) ∧ Hid (Kr wr t v (.slice ad2 m cap2) (L))) (fun s19 _ => m - (intOf s19).toNat)
      case atStart => exact ⟨0, _, Nat.zero_le _, rfl, O7.out, K7.out⟩
      case round =>
        clear O7 K7
        obtain ⟨i, v8, hi, rfl, HO, HK⟩ := hrel
        by_cases hlt : i < m
        · have hkl : i < (L).length := by rw [← Hm.out]; exact hlt
          have hlt' : (i : Int) < (m : Int) := by omega
          have hix : (i : Int) < (m : Int) := hlt'
          have hix2 : ¬ m ≤ i := by omega
          obtain ⟨g, off, rfl, hcs⟩ := kr_cells HK.out i hkl
          have HD : Hid ((L).drop i = (L)[i]'hkl :: (L).drop (i + 1)) := List.drop_eq_getElem_cons hkl
          have hmy : May Wd ((L)[i]'hkl).k ((L)[i]'hkl).n := HO.out.tr.may (by rw [HD.out]; exact List.mem_cons_self)
          have he0 := kr_word HO.out.hw hmy
          generalize (L)[i]'hkl = e0 at hcs HD hmy he0
          have hcut : Calls Try.prog 13 #[.pointer (some ⟨t, 0, none⟩), .int .u32 (e0.k : Int), .int .i64 (e0.n : Int)] wr.drew fun e W' => e = .returned (.int .i64 0) ∧ ∃ v', Own w W' t v' Wd 1048576 ((L).drop (i + 1)) ar ∧ Moved wr.drew W' t v8 v' := by
            have q := own_cut (HO.out.on ((Below.refl _ _).drew)) e0.k e0.n he0
            rw [HD.out, (cut_head Wd hmy).1, (cut_head Wd hmy).2] at q
            exact q
          have Hcs : Hid (∀ W v, Kr W t v (.slice (some ⟨g, off, none⟩) m cap2) (L) → W.cell? ⟨g, off + i * 3, none⟩ = some (.int .u32 (e0.k : Int)) ∧ W.cell? ⟨g, off + i * 3 + 1, none⟩ = some (.int .i64 (e0.n : Int))) := hcs
          clear hcs HD hmy
          have hwk : IntKind.i64.wrap ((i : Int) + 1) = (i : Int) + 1 := by rw [IntKind.wrap_i64]; omega
          go_upto_region 24 with (fail)
          refine wp_region_held_drew (S := fun w' => w'.cell? ⟨g, off + i * 3, none⟩ = some (.int .u32 (e0.k : Int)) ∧ w'.cell? ⟨g, off + i * 3 + 1, none⟩ = some (.int .i64 (e0.n : Int))) (by kernel_rfl) (Hcs.out _ _ (HK.out.on ((Below.refl _ _).drew))) (fun hS1 => ?_)
          show wpAnyH _ _ _ _ _ 13 _ _ _
          refine wpAnyH_take (i := 0) (v := .pointer (some ⟨t, 0, none⟩)) rfl (by kernel_rfl) (by kernel_rfl) (by kernel_rfl) (fun _ _ _ h => h) (.inl ⟨rfl, fun _ _ => by simp [execOp, go_sem]⟩) hS1 ?_
          simp only [List.getElem_toArray, List.getElem_cons_succ, List.getElem_cons_zero, Act.put, List.setIfInBounds_toArray, List.set_cons_zero, List.set_cons_succ]
          refine wpAnyH_take (i := 1) (v := .slice (some ⟨g, off, none⟩) m cap2) rfl (by kernel_rfl) (by kernel_rfl) (by kernel_rfl) (fun _ _ _ h => h) (.inl ⟨rfl, fun _ _ => by simp [execOp, go_sem]⟩) hS1 ?_
          simp only [List.getElem_toArray, List.getElem_cons_succ, List.getElem_cons_zero, Act.put, List.setIfInBounds_toArray, List.set_cons_zero, List.set_cons_succ]
          refine wpAnyH_take (i := 2) (v := .int .i64 (i : Int)) rfl (by kernel_rfl) (by kernel_rfl) (by kernel_rfl) (fun _ _ _ h => h) (.inl ⟨rfl, fun _ _ => by simp [execOp, go_sem]⟩) hS1 ?_
          simp only [List.getElem_toArray, List.getElem_cons_succ, List.getElem_cons_zero, Act.put, List.setIfInBounds_toArray, List.set_cons_zero, List.set_cons_succ]
          refine wpAnyH_take (i := 3) (v := .pointer (some ⟨g, off + i * 3, none⟩)) rfl (by kernel_rfl) (by kernel_rfl) (by kernel_rfl) (fun _ _ _ h => h) (yieldsIf_index rfl 46 (.tmp 152) (.tmp 153) rfl _ (fun w => by simp [Instr.indexAt, go_sem, hix, hix2])) hS1 ?_
          simp only [List.getElem_toArray, List.getElem_cons_succ, List.getElem_cons_zero, Act.put, List.setIfInBounds_toArray, List.set_cons_zero, List.set_cons_succ]
          refine wpAnyH_take (i := 4) (v := .pointer (some ⟨g, off + i * 3, none⟩)) rfl (by kernel_rfl) (by kernel_rfl) (by kernel_rfl) (fun _ _ _ h => h) (.inl ⟨rfl, fun _ _ => by simp [execOp, go_sem]⟩) hS1 ?_
          simp only [List.getElem_toArray, List.getElem_cons_succ, List.getElem_cons_zero, Act.put, List.setIfInBounds_toArray, List.set_cons_zero, List.set_cons_succ]
          refine wpAnyH_take (i := 5) (v := .int .u32 (e0.k : Int)) rfl (by kernel_rfl) (by kernel_rfl) (by kernel_rfl) (fun _ _ _ h => h) (.inl ⟨rfl, fun w' hw' => by have hcc := hw'.1; simp [execOp, go_sem, hcc]⟩) hS1 ?_
          simp only [List.getElem_toArray, List.getElem_cons_succ, List.getElem_cons_zero, Act.put, List.setIfInBounds_toArray, List.set_cons_zero, List.set_cons_succ]
          refine wpAnyH_take (i := 6) (v := .slice (some ⟨g, off, none⟩) m cap2) rfl (by kernel_rfl) (by kernel_rfl) (by kernel_rfl) (fun _ _ _ h => h) (.inl ⟨rfl, fun _ _ => by simp [execOp, go_sem]⟩) hS1 ?_
          simp only [List.getElem_toArray, List.getElem_cons_succ, List.getElem_cons_zero, Act.put, List.setIfInBounds_toArray, List.set_cons_zero, List.set_cons_succ]
          refine wpAnyH_take (i := 7) (v := .int .i64 (i : Int)) rfl (by kernel_rfl) (by kernel_rfl) (by kernel_rfl) (fun _ _ _ h => h) (.inl ⟨rfl, fun _ _ => by simp [execOp, go_sem]⟩) hS1 ?_
          simp only [List.getElem_toArray, List.getElem_cons_succ, List.getElem_cons_zero, Act.put, List.setIfInBounds_toArray, List.set_cons_zero, List.set_cons_succ]
          refine wpAnyH_take (i := 8) (v := .pointer (some ⟨g, off + i * 3, none⟩)) rfl (by kernel_rfl) (by kernel_rfl) (by kernel_rfl) (fun _ _ _ h => h) (yieldsIf_index rfl 46 (.tmp 157) (.tmp 158) rfl _ (fun w => by simp [Instr.indexAt, go_sem, hix, hix2])) hS1 ?_
          simp only [List.getElem_toArray, List.getElem_cons_succ, List.getElem_cons_zero, Act.put, List.setIfInBounds_toArray, List.set_cons_zero, List.set_cons_succ]
          refine wpAnyH_take (i := 9) (v := .pointer (some ⟨g, off + i * 3 + 1, none⟩)) rfl (by kernel_rfl) (by kernel_rfl) (by kernel_rfl) (fun _ _ _ h => h) (.inl ⟨rfl, fun _ _ => by simp [execOp, go_sem]⟩) hS1 ?_
          simp only [List.getElem_toArray, List.getElem_cons_succ, List.getElem_cons_zero, Act.put, List.setIfInBounds_toArray, List.set_cons_zero, List.set_cons_succ]
          refine wpAnyH_take (i := 10) (v := .int .i64 (e0.n : Int)) rfl (by kernel_rfl) (by kernel_rfl) (by kernel_rfl) (fun _ _ _ h => h) (.inl ⟨rfl, fun w' hw' => by have hcc := hw'.2; simp [execOp, go_sem, hcc]⟩) hS1 ?_
          simp only [List.getElem_toArray, List.getElem_cons_succ, List.getElem_cons_zero, Act.put, List.setIfInBounds_toArray, List.set_cons_zero, List.set_cons_succ]
          refine wpAnyH_all (rs := [11]) (by kernel_rfl) (by simp) ?_
          intro i hi
          simp only [List.mem_cons, List.not_mem_nil, or_false] at hi
          subst hi
          refine wpOp_of_wp rfl rfl (fun K' hK' => ?_)
          go_wp2_with (go_at_call 13; refine hcut.mono ?_; rintro e W9 ⟨rfl, v9, o9, m9⟩)
          have O9 := hidMk o9
          have K9 := hidMk ((HK.out.on ((Below.refl _ _).drew)).moved m9)
          have hS3 := Hcs.out _ _ K9.out
          refine ⟨hS3, ?_⟩
          refine wpAnyH_take (i := 12) (v := .int .i64 0) rfl (by kernel_rfl) (by kernel_rfl) (by kernel_rfl) (fun _ _ _ h => h) (.inl ⟨rfl, fun _ _ => by simp [execOp, go_sem]⟩) hS3 ?_
          simp only [List.getElem_toArray, List.getElem_cons_succ, List.getElem_cons_zero, Act.put, List.setIfInBounds_toArray, List.set_cons_zero, List.set_cons_succ]
          refine wpAnyH_done (by kernel_rfl) ?_ _
          clear hS1 hS3 o9 m9 HO HK hcut
          go_wp2_with (fail)
          go_roundw
          case rel => exact ⟨i + 1, v9, by omega, by go_num, O9.out, K9.out⟩
          case measure => simp [intOf]; omega
        · have hlt' : ¬ (i : Int) < (m : Int) := by omega
          have O8 : Hid (Own w wr t v8 Wd 1048576 [] ar) := by
            have e : (L).drop i = [] := List.drop_of_length_le (by have := Hm.out; omega)
            have q := HO.out
            rw [e] at q
            exact q
          clear HO HK
          go_wp2_with (fail)
          refine (awakeC _).mono ?_
          rintro e WA ⟨rfl, hb⟩
          have OA := hidMk (O8.out.on hb)
          clear hb O8
          go_wp2_with (fail)
          refine (nodesC _ _ _ _ _ _ _ OA.out.tr).mono ?_
          rintro e w9 ⟨rfl, hw9⟩
          obtain rfl := hw9.symm
          clear hw9
          go_wp2_with (fail)
          refine (walkC (some ⟨t, 0, none⟩) _).mono ?_
          rintro e w9 ⟨rfl, hw9⟩
          obtain rfl := hw9.symm
          clear hw9
          go_wp2_with (fail)
          refine (same_walk OA.out (.slice none 0 0) 0 (RowE.nil _ 0).src (by decide) (by decide)).mono ?_
          rintro e WB ⟨rfl, hb⟩
          have HBB : Hid (Below w.heap.size w WB) := (OA.out.on hb).be
          clear hb OA
          go_wp2_with (fail)
          go_ret
          exact ⟨rfl, HBB.out⟩
end Go.Proofs.Ytmickfhomfkjoaa
