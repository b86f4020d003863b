/-
  The document's Check and May of rules (as in RuRc).
-/
import Derived.Test.YtgidohnikggjfaaGreatTbRd
import Derived.Test.YtgidohnikggjfaaGreatMkB
import Derived.Test.YtgidohnikggjfaaGreatPxS2
namespace Go.Proofs.YtgidohnikggjfaaGreat
open Go.RowKit
set_option linter.unusedVariables false
set_option linter.unusedSimpArgs false

theorem rends (a b : Nat) (w : World) : Calls Tryz.prog 65 #[.agg #[.int .u16 a, .int .u16 b]] w fun e w' => e = .returned (.int .i64 (errS a b)) ∧ Below w.heap.size w w' := by
  by_cases h : b < a
  · rw [show errS a b = 30 from if_pos h]
    have h' : (b : Int) < (a : Int) := by omega
    clear h
    go_enter Tryz.func65, Tryz.ntmps65
    go_wp2
    go_ret
    exact ⟨rfl, by (repeat (first | assumption | exact Below.refl _ _ | refine Below.drew ?_ | refine bel_drewN ?_ _ | refine Below.setCell ?_ (by first | omega | (simp; done) | (simp; omega)) _ | refine Below.alloc ?_ (by first | omega | (simp; done) | (simp; omega)) _ | refine bel_of ?_ (by assumption)))⟩
  · rw [show errS a b = 0 from if_neg h]
    have h' : ¬ (b : Int) < (a : Int) := by omega
    clear h
    go_enter Tryz.func65, Tryz.ntmps65
    go_wp2
    go_ret
    exact ⟨rfl, by (repeat (first | assumption | exact Below.refl _ _ | refine Below.drew ?_ | refine bel_drewN ?_ _ | refine Below.setCell ?_ (by first | omega | (simp; done) | (simp; omega)) _ | refine Below.alloc ?_ (by first | omega | (simp; done) | (simp; omega)) _ | refine bel_of ?_ (by assumption)))⟩
theorem zeroK_more {l r : List Int} {k : Nat} (h : zeroK l k) : zeroK (l ++ r) k := fun j hj => by
  have := h j hj
  rw [List.getElem?_append_left (List.getElem?_eq_some_iff.1 this).1]; exact this
theorem cells5 {w : World} {b : Nat} {v0 v1 v2 v3 v4 : Value} {t : TypeId} (h : w.heap[b]? = some (.cells #[v0, v1, v2, v3, v4] t)) : w.cell? ⟨b, 0, none⟩ = some v0 ∧ w.cell? ⟨b, 1, none⟩ = some v1 ∧ w.cell? ⟨b, 2, none⟩ = some v2 ∧ w.cell? ⟨b, 3, none⟩ = some v3 ∧ w.cell? ⟨b, 4, none⟩ = some v4 :=
  ⟨blk_cell h rfl, blk_cell h rfl, blk_cell h rfl, blk_cell h rfl, blk_cell h rfl⟩
set_option maxRecDepth 20000 in
set_option maxHeartbeats 4000000 in
theorem rcheckR (R : Ru) (w : World) (b : BdR R) :
    Calls Tryz.prog 43 #[.agg #[.int .i64 R.i, .int .u32 (R.s : Int), .int .i64 R.sl, .int .u32 (R.d : Int), .int .i64 R.dl, .int .u16 (R.p.1 : Int), .int .u16 (R.p.2 : Int), .int .u16 (R.q.1 : Int), .int .u16 (R.q.2 : Int), .int .u8 (R.m.1 : Int), .int .u8 (R.m.2 : Int), .int .i64 R.act]] w fun e w' => e = .returned (.tuple #[.int .i64 (errs R).1, .int .i64 (errs R).2]) ∧ Below w.heap.size w w' := by
  obtain ⟨b1, b2, b3, b4, b5, b6, b7, b8, _⟩ := b
  have k1 := fun W => Pf.rcheck_any R.s R.sl W b1
  have k2 := fun W => Pf.rcheck_any R.d R.dl W b2
  have k3 := fun W => rends R.p.1 R.p.2 W
  have k4 := fun W => rends R.q.1 R.q.2 W
  have k5 := fun W => rcheckM R.m.1 R.m.2 W b7 b8
  clear b1 b2 b3 b4 b5 b6 b7 b8
  have HR := blk_new w (.cells #[.int .i64 R.i, .int .u32 (R.s : Int), .int .i64 R.sl, .int .u32 (R.d : Int), .int .i64 R.dl, .int .u16 (R.p.1 : Int), .int .u16 (R.p.2 : Int), .int .u16 (R.q.1 : Int), .int .u16 (R.q.2 : Int), .int .u8 (R.m.1 : Int), .int .u8 (R.m.2 : Int), .int .i64 R.act] 64)
  have HW : Hid (Below w.heap.size w (w.alloc (.cells #[.int .i64 R.i, .int .u32 (R.s : Int), .int .i64 R.sl, .int .u32 (R.d : Int), .int .i64 R.dl, .int .u16 (R.p.1 : Int), .int .u16 (R.p.2 : Int), .int .u16 (R.q.1 : Int), .int .u16 (R.q.2 : Int), .int .u8 (R.m.1 : Int), .int .u8 (R.m.2 : Int), .int .i64 R.act] 64))) := (Below.refl _ _).alloc (Nat.le_refl _) _
  by_cases hi : 1 ≤ R.i ∧ R.i ≤ 999999
  · have HE : Hid (errs R = firstE [Pf.chk R.s R.sl, Pf.chk R.d R.dl, errS R.p.1 R.p.2, errS R.q.1 R.q.2, chk R.m.1 R.m.2, errA R.act] 2) := by
      show _ = _
      unfold errs
      rw [show errI R.i = 0 from if_pos hi]
      rfl
    obtain ⟨hi1, hi2⟩ := hi
    generalize errs R = V at *
    generalize Pf.chk R.s R.sl = e1 at *
    generalize Pf.chk R.d R.dl = e2 at *
    generalize errS R.p.1 R.p.2 = e3 at *
    generalize errS R.q.1 R.q.2 = e4 at *
    generalize chk R.m.1 R.m.2 = e5 at *
    go_enter Tryz.func43, Tryz.ntmps43
    go_upto_region 3 with (fail)
    generalize w.alloc (.cells #[.int .i64 R.i, .int .u32 (R.s : Int), .int .i64 R.sl, .int .u32 (R.d : Int), .int .i64 R.dl, .int .u16 (R.p.1 : Int), .int .u16 (R.p.2 : Int), .int .u16 (R.q.1 : Int), .int .u16 (R.q.2 : Int), .int .u8 (R.m.1 : Int), .int .u8 (R.m.2 : Int), .int .i64 R.act] 64) = W0 at *
    go_cut [4] (fun s wx => ∃ g : Nat, s = .slice (some ⟨g, 0, none⟩) 5 5 ∧ Hid (wx.heap[g]? = some (.cells #[.int .i64 e1, .int .i64 e2, .int .i64 e3, .int .i64 e4, .int .i64 e5] 29)) ∧ Hid (Below W0.heap.size W0 wx))
    case first =>
      obtain ⟨c0, c1, c2, c3, c4, c5, c6, c7, c8, c9, c10, c11⟩ := blk12 HR
      refine wp_region_held_drew (S := fun w' => Below W0.heap.size W0 w') (by kernel_rfl) (Below.drew (Below.refl _ _)) (fun hS0 => ?_)
      show wpAnyH _ _ _ _ _ 17 _ _ _
      refine wpAnyH_take (i := 0) (v := .pointer (some ⟨w.heap.size, 1, none⟩)) rfl (by kernel_rfl) (by kernel_rfl) (by kernel_rfl) (fun _ _ _ h => h) (.inl ⟨rfl, fun _ _ => by simp [execOp, go_sem]⟩) hS0 ?_
      simp only [List.getElem_toArray, List.getElem_cons_succ, List.getElem_cons_zero, Act.put, List.setIfInBounds_toArray, List.set_cons_zero, List.set_cons_succ]
      refine wpAnyH_take (i := 1) rfl (by kernel_rfl) (by kernel_rfl) (by kernel_rfl) (fun _ _ _ h => h) (yieldsIf_load_mid rfl 58 (.tmp 14) rfl w.heap.size 1 rfl [.int .u32 (R.s : Int), .int .i64 R.sl] _ (fun w' hw' => range2 (cell_on1 hw' c1) (cell_on1 hw' c2)) Tryz.underlying58 rfl (by kernel_rfl)) hS0 ?_
      simp only [List.getElem_toArray, List.getElem_cons_succ, List.getElem_cons_zero, Act.put, List.setIfInBounds_toArray, List.set_cons_zero, List.set_cons_succ]
      refine wpAnyH_take (i := 3) (v := .pointer (some ⟨w.heap.size, 3, none⟩)) rfl (by kernel_rfl) (by kernel_rfl) (by kernel_rfl) (fun _ _ _ h => h) (.inl ⟨rfl, fun _ _ => by simp [execOp, go_sem]⟩) hS0 ?_
      simp only [List.getElem_toArray, List.getElem_cons_succ, List.getElem_cons_zero, Act.put, List.setIfInBounds_toArray, List.set_cons_zero, List.set_cons_succ]
      refine wpAnyH_take (i := 4) rfl (by kernel_rfl) (by kernel_rfl) (by kernel_rfl) (fun _ _ _ h => h) (yieldsIf_load_mid rfl 58 (.tmp 17) rfl w.heap.size 3 rfl [.int .u32 (R.d : Int), .int .i64 R.dl] _ (fun w' hw' => range2 (cell_on1 hw' c3) (cell_on1 hw' c4)) Tryz.underlying58 rfl (by kernel_rfl)) hS0 ?_
      simp only [List.getElem_toArray, List.getElem_cons_succ, List.getElem_cons_zero, Act.put, List.setIfInBounds_toArray, List.set_cons_zero, List.set_cons_succ]
      refine wpAnyH_take (i := 6) (v := .pointer (some ⟨w.heap.size, 5, none⟩)) rfl (by kernel_rfl) (by kernel_rfl) (by kernel_rfl) (fun _ _ _ h => h) (.inl ⟨rfl, fun _ _ => by simp [execOp, go_sem]⟩) hS0 ?_
      simp only [List.getElem_toArray, List.getElem_cons_succ, List.getElem_cons_zero, Act.put, List.setIfInBounds_toArray, List.set_cons_zero, List.set_cons_succ]
      refine wpAnyH_take (i := 7) rfl (by kernel_rfl) (by kernel_rfl) (by kernel_rfl) (fun _ _ _ h => h) (yieldsIf_load_mid rfl 60 (.tmp 20) rfl w.heap.size 5 rfl [.int .u16 (R.p.1 : Int), .int .u16 (R.p.2 : Int)] _ (fun w' hw' => range2 (cell_on1 hw' c5) (cell_on1 hw' c6)) Tryz.underlying60 rfl (by kernel_rfl)) hS0 ?_
      simp only [List.getElem_toArray, List.getElem_cons_succ, List.getElem_cons_zero, Act.put, List.setIfInBounds_toArray, List.set_cons_zero, List.set_cons_succ]
      refine wpAnyH_take (i := 9) (v := .pointer (some ⟨w.heap.size, 7, none⟩)) rfl (by kernel_rfl) (by kernel_rfl) (by kernel_rfl) (fun _ _ _ h => h) (.inl ⟨rfl, fun _ _ => by simp [execOp, go_sem]⟩) hS0 ?_
      simp only [List.getElem_toArray, List.getElem_cons_succ, List.getElem_cons_zero, Act.put, List.setIfInBounds_toArray, List.set_cons_zero, List.set_cons_succ]
      refine wpAnyH_take (i := 10) rfl (by kernel_rfl) (by kernel_rfl) (by kernel_rfl) (fun _ _ _ h => h) (yieldsIf_load_mid rfl 60 (.tmp 23) rfl w.heap.size 7 rfl [.int .u16 (R.q.1 : Int), .int .u16 (R.q.2 : Int)] _ (fun w' hw' => range2 (cell_on1 hw' c7) (cell_on1 hw' c8)) Tryz.underlying60 rfl (by kernel_rfl)) hS0 ?_
      simp only [List.getElem_toArray, List.getElem_cons_succ, List.getElem_cons_zero, Act.put, List.setIfInBounds_toArray, List.set_cons_zero, List.set_cons_succ]
      refine wpAnyH_take (i := 12) (v := .pointer (some ⟨w.heap.size, 9, none⟩)) rfl (by kernel_rfl) (by kernel_rfl) (by kernel_rfl) (fun _ _ _ h => h) (.inl ⟨rfl, fun _ _ => by simp [execOp, go_sem]⟩) hS0 ?_
      simp only [List.getElem_toArray, List.getElem_cons_succ, List.getElem_cons_zero, Act.put, List.setIfInBounds_toArray, List.set_cons_zero, List.set_cons_succ]
      refine wpAnyH_take (i := 13) rfl (by kernel_rfl) (by kernel_rfl) (by kernel_rfl) (fun _ _ _ h => h) (yieldsIf_load_mid rfl 62 (.tmp 26) rfl w.heap.size 9 rfl [.int .u8 (R.m.1 : Int), .int .u8 (R.m.2 : Int)] _ (fun w' hw' => range2 (cell_on1 hw' c9) (cell_on1 hw' c10)) Tryz.underlying62 rfl (by kernel_rfl)) hS0 ?_
      simp only [List.getElem_toArray, List.getElem_cons_succ, List.getElem_cons_zero, Act.put, List.setIfInBounds_toArray, List.set_cons_zero, List.set_cons_succ]
      refine wpAnyH_all (rs := [2]) (by kernel_rfl) (by simp) ?_
      intro i hi
      simp only [List.mem_cons, List.not_mem_nil, or_false] at hi
      subst hi
      refine wpOp_of_wp rfl rfl (fun K' hK' => ?_)
      go_wp2_with (go_at_call 60; refine (k1 _).mono ?_; rintro e w1 ⟨rfl, hw1⟩)
      have Sw1 : Below W0.heap.size W0 w1 := (hS0).trans (hw1.mono (hS0).size)
      refine ⟨Sw1, ?_⟩
      refine wpAnyH_all (rs := [5]) (by kernel_rfl) (by simp) ?_
      intro i hi
      simp only [List.mem_cons, List.not_mem_nil, or_false] at hi
      subst hi
      refine wpOp_of_wp rfl rfl (fun K' hK' => ?_)
      go_wp2_with (go_at_call 60; refine (k2 _).mono ?_; rintro e w2 ⟨rfl, hw2⟩)
      have Sw2 : Below W0.heap.size W0 w2 := (Sw1).trans (hw2.mono (Sw1).size)
      refine ⟨Sw2, ?_⟩
      refine wpAnyH_all (rs := [8]) (by kernel_rfl) (by simp) ?_
      intro i hi
      simp only [List.mem_cons, List.not_mem_nil, or_false] at hi
      subst hi
      refine wpOp_of_wp rfl rfl (fun K' hK' => ?_)
      go_wp2_with (go_at_call 65; refine (k3 _).mono ?_; rintro e w3 ⟨rfl, hw3⟩)
      have Sw3 : Below W0.heap.size W0 w3 := (Sw2).trans (hw3.mono (Sw2).size)
      refine ⟨Sw3, ?_⟩
      refine wpAnyH_all (rs := [11]) (by kernel_rfl) (by simp) ?_
      intro i hi
      simp only [List.mem_cons, List.not_mem_nil, or_false] at hi
      subst hi
      refine wpOp_of_wp rfl rfl (fun K' hK' => ?_)
      go_wp2_with (go_at_call 65; refine (k4 _).mono ?_; rintro e w4 ⟨rfl, hw4⟩)
      have Sw4 : Below W0.heap.size W0 w4 := (Sw3).trans (hw4.mono (Sw3).size)
      refine ⟨Sw4, ?_⟩
      refine wpAnyH_all (rs := [14]) (by kernel_rfl) (by simp) ?_
      intro i hi
      simp only [List.mem_cons, List.not_mem_nil, or_false] at hi
      subst hi
      refine wpOp_of_wp rfl rfl (fun K' hK' => ?_)
      go_wp2_with (go_at_call 66; refine (k5 _).mono ?_; rintro e w5 ⟨rfl, hw5⟩)
      have Sw5 : Below W0.heap.size W0 w5 := (Sw4).trans (hw5.mono (Sw4).size)
      refine ⟨Sw5, ?_⟩
      refine wpAnyH_all (rs := [15]) (by kernel_rfl) (by simp) ?_
      intro i hi
      simp only [List.mem_cons, List.not_mem_nil, or_false] at hi
      subst hi
      refine wpOp_of_wp rfl rfl (fun K' hK' => ?_)
      go_wp2_with (fail)
      have Sa : Below W0.heap.size W0 (w5.alloc (.cells #[.int .i64 e1, .int .i64 e2, .int .i64 e3, .int .i64 e4, .int .i64 e5] 29)) := Sw5.alloc Sw5.size _
      refine ⟨Sa, ?_⟩
      refine wpAnyH_take (i := 16) rfl (by kernel_rfl) (by kernel_rfl) (by kernel_rfl) (fun _ _ _ h => h) (.inl ⟨rfl, fun _ _ => rfl⟩) Sa ?_
      simp only [List.getElem_toArray, List.getElem_cons_succ, List.getElem_cons_zero, Act.put, List.setIfInBounds_toArray, List.set_cons_zero, List.set_cons_succ]
      refine wpAnyH_done (by kernel_rfl) ?_ _
      have HSa : Hid (Below W0.heap.size W0 (w5.alloc (.cells #[.int .i64 e1, .int .i64 e2, .int .i64 e3, .int .i64 e4, .int .i64 e5] 29))) := Sa
      go_wp2_with (fail)
      go_meet
      case rel => exact ⟨_, rfl, blk_new w5 _, HSa.out⟩
    case rest =>
      obtain ⟨g, rfl, HG, HB⟩ := hcut
      obtain ⟨d0, d1, d2, d3, d4⟩ := cells5 HG.out
      obtain ⟨c0, c1, c2, c3, c4, c5, c6, c7, c8, c9, c10, c11⟩ := blk12 (blk_on HR HB.out)
      clear c0 c1 c2 c3 c4 c5 c6 c7 c8 c9 c10
      have HBw : Hid (Below w.heap.size w wc) := HW.out.trans (HB.out.mono HW.out.size)
      clear HR k1 k2 k3 k4 k5
      go_wp2_with (fail)
      go_loopw [5] (fun iv wr => ∃ k : Nat, k ≤ 5 ∧ iv = .int .i64 (k : Int) ∧ Hid (zeroK [e1, e2, e3, e4, e5] k) ∧ wr = wc) (fun iv _ => 5 - (intOf iv).toNat)
      case atStart => exact ⟨0, Nat.zero_le _, rfl, fun j hj => by omega, rfl⟩
      case round =>
        obtain ⟨k, hk, rfl, hz, hwr⟩ := hrel
        subst hwr
        obtain rfl | rfl | rfl | rfl | rfl | rfl : k = 0 ∨ k = 1 ∨ k = 2 ∨ k = 3 ∨ k = 4 ∨ k = 5 := by omega
        · by_cases h : e1 = 0
          · have hz' : Hid (zeroK [e1, e2, e3, e4, e5] 1) := zeroK_succ hz.out (by rw [h]; rfl)
            rw [h] at d0
            go_wp2_with (fail)
            go_roundw
            case rel => exact ⟨1, by omega, rfl, hz'.out, trivial⟩
            case measure => simp [intOf]
          · have HF : Hid ((e1, 2) = V) := by show _ = _; rw [HE.out]; exact (firstE_here (l := [e1, e2, e3, e4, e5, errA R.act]) 2 (zeroK_more hz.out) (k := 0) rfl h).symm
            go_wp2_with (fail)
            exact bodyPost_ret (v := .tuple #[.int .i64 e1, .int .i64 2]) (by simp [results, Tryz.results43, go_sem]) rfl ⟨ret_two HF.out, HBw.out⟩
        · by_cases h : e2 = 0
          · have hz' : Hid (zeroK [e1, e2, e3, e4, e5] 2) := zeroK_succ hz.out (by rw [h]; rfl)
            rw [h] at d1
            go_wp2_with (fail)
            go_roundw
            case rel => exact ⟨2, by omega, rfl, hz'.out, trivial⟩
            case measure => simp [intOf]
          · have HF : Hid ((e2, 3) = V) := by show _ = _; rw [HE.out]; exact (firstE_here (l := [e1, e2, e3, e4, e5, errA R.act]) 2 (zeroK_more hz.out) (k := 1) rfl h).symm
            go_wp2_with (fail)
            exact bodyPost_ret (v := .tuple #[.int .i64 e2, .int .i64 3]) (by simp [results, Tryz.results43, go_sem]) rfl ⟨ret_two HF.out, HBw.out⟩
        · by_cases h : e3 = 0
          · have hz' : Hid (zeroK [e1, e2, e3, e4, e5] 3) := zeroK_succ hz.out (by rw [h]; rfl)
            rw [h] at d2
            go_wp2_with (fail)
            go_roundw
            case rel => exact ⟨3, by omega, rfl, hz'.out, trivial⟩
            case measure => simp [intOf]
          · have HF : Hid ((e3, 4) = V) := by show _ = _; rw [HE.out]; exact (firstE_here (l := [e1, e2, e3, e4, e5, errA R.act]) 2 (zeroK_more hz.out) (k := 2) rfl h).symm
            go_wp2_with (fail)
            exact bodyPost_ret (v := .tuple #[.int .i64 e3, .int .i64 4]) (by simp [results, Tryz.results43, go_sem]) rfl ⟨ret_two HF.out, HBw.out⟩
        · by_cases h : e4 = 0
          · have hz' : Hid (zeroK [e1, e2, e3, e4, e5] 4) := zeroK_succ hz.out (by rw [h]; rfl)
            rw [h] at d3
            go_wp2_with (fail)
            go_roundw
            case rel => exact ⟨4, by omega, rfl, hz'.out, trivial⟩
            case measure => simp [intOf]
          · have HF : Hid ((e4, 5) = V) := by show _ = _; rw [HE.out]; exact (firstE_here (l := [e1, e2, e3, e4, e5, errA R.act]) 2 (zeroK_more hz.out) (k := 3) rfl h).symm
            go_wp2_with (fail)
            exact bodyPost_ret (v := .tuple #[.int .i64 e4, .int .i64 5]) (by simp [results, Tryz.results43, go_sem]) rfl ⟨ret_two HF.out, HBw.out⟩
        · by_cases h : e5 = 0
          · have hz' : Hid (zeroK [e1, e2, e3, e4, e5] 5) := zeroK_succ hz.out (by rw [h]; rfl)
            rw [h] at d4
            go_wp2_with (fail)
            go_roundw
            case rel => exact ⟨5, by omega, rfl, hz'.out, trivial⟩
            case measure => simp [intOf]
          · have HF : Hid ((e5, 6) = V) := by show _ = _; rw [HE.out]; exact (firstE_here (l := [e1, e2, e3, e4, e5, errA R.act]) 2 (zeroK_more hz.out) (k := 4) rfl h).symm
            go_wp2_with (fail)
            exact bodyPost_ret (v := .tuple #[.int .i64 e5, .int .i64 6]) (by simp [results, Tryz.results43, go_sem]) rfl ⟨ret_two HF.out, HBw.out⟩
        · by_cases ha : 1 ≤ R.act ∧ R.act ≤ 4
          · have HF : Hid ((0, 0) = V) := by show _ = _; rw [HE.out]; exact (firstE_none (l := [e1, e2, e3, e4, e5, errA R.act]) 2 (zeroK_succ (l := [e1, e2, e3, e4, e5, errA R.act]) (k := 5) (zeroK_more hz.out) (by rw [show errA R.act = 0 from if_pos ha]; rfl))).symm
            obtain ⟨ha1, ha2⟩ := ha
            go_wp2_with (fail)
            exact bodyPost_ret (v := .tuple #[.int .i64 0, .int .i64 0]) (by simp [results, Tryz.results43, go_sem]) rfl ⟨ret_two HF.out, HBw.out⟩
          · have HF : Hid ((81, 7) = V) := by
              show _ = _; rw [HE.out]
              have he : errA R.act = 81 := if_neg ha
              exact (firstE_here (l := [e1, e2, e3, e4, e5, errA R.act]) 2 (zeroK_more hz.out) (k := 5) (by rw [he]; rfl) (by decide)).symm
            by_cases ha1 : R.act < 1
            · go_wp2_with (fail)
              exact bodyPost_ret (v := .tuple #[.int .i64 81, .int .i64 7]) (by simp [results, Tryz.results43, go_sem]) rfl ⟨ret_two HF.out, HBw.out⟩
            · have ha2 : 4 < R.act := by omega
              go_wp2_with (fail)
              exact bodyPost_ret (v := .tuple #[.int .i64 81, .int .i64 7]) (by simp [results, Tryz.results43, go_sem]) rfl ⟨ret_two HF.out, HBw.out⟩
  · have he : errs R = (80, 1) := by
      unfold errs
      rw [show errI R.i = 80 from if_neg hi]
      rfl
    rw [he]
    have hbw := HW.out
    by_cases h1 : R.i < 1
    · clear hi
      go_enter Tryz.func43, Tryz.ntmps43
      go_wp2_with (fail)
      exact bodyPost_ret (v := .tuple #[.int .i64 80, .int .i64 1]) (by simp [results, Tryz.results43, go_sem]) rfl ⟨rfl, HW.out⟩
    · have h2 : 999999 < R.i := by omega
      clear hi
      go_enter Tryz.func43, Tryz.ntmps43
      go_wp2_with (fail)
      exact bodyPost_ret (v := .tuple #[.int .i64 80, .int .i64 1]) (by simp [results, Tryz.results43, go_sem]) rfl ⟨rfl, HW.out⟩
theorem rmayR (R : Ru) (w : World) (b : BdR R) :
    Calls Tryz.prog 40 #[.agg #[.int .i64 R.i, .int .u32 (R.s : Int), .int .i64 R.sl, .int .u32 (R.d : Int), .int .i64 R.dl, .int .u16 (R.p.1 : Int), .int .u16 (R.p.2 : Int), .int .u16 (R.q.1 : Int), .int .u16 (R.q.2 : Int), .int .u8 (R.m.1 : Int), .int .u8 (R.m.2 : Int), .int .i64 R.act]] w fun e w' => e = .returned (.bool (okR R)) ∧ Below w.heap.size w w' := by
  have hC := fun W => rcheckR R W b
  cases ho : okR R
  · have hn := errs_no ho
    have hn' : ((errs R).1 == 0) = false := by simpa using hn
    generalize (errs R).1 = c at *
    generalize (errs R).2 = d at *
    clear ho b
    go_enter Tryz.func40, Tryz.ntmps40
    go_wp2_with (fail)
    refine (hC _).mono ?_
    rintro e w1 ⟨rfl, hb1⟩
    have GR : Hid (w1.heap[w.heap.size]? = some (.cells #[.int .i64 R.i, .int .u32 (R.s : Int), .int .i64 R.sl, .int .u32 (R.d : Int), .int .i64 R.dl, .int .u16 (R.p.1 : Int), .int .u16 (R.p.2 : Int), .int .u16 (R.q.1 : Int), .int .u16 (R.q.2 : Int), .int .u8 (R.m.1 : Int), .int .u8 (R.m.2 : Int), .int .i64 R.act] 64)) := blk_on (blk_new w (.cells #[.int .i64 R.i, .int .u32 (R.s : Int), .int .i64 R.sl, .int .u32 (R.d : Int), .int .i64 R.dl, .int .u16 (R.p.1 : Int), .int .u16 (R.p.2 : Int), .int .u16 (R.q.1 : Int), .int .u16 (R.q.2 : Int), .int .u8 (R.m.1 : Int), .int .u8 (R.m.2 : Int), .int .i64 R.act] 64)) hb1
    have hbl1 : Hid (Below w.heap.size w w1) := bel_step (Below.refl _ _) (bel_a1 _ _) hb1
    clear hb1
    have HR := GR
    clear GR
    have lR := blk_lt HR.out
    have nR : ¬ w.heap.size = w1.heap.size := by omega
    go_wp2_with (fail)
    go_ret
    exact ⟨rfl, hbl1.out⟩
  · rw [errs_ok ho] at hC
    clear ho b
    go_enter Tryz.func40, Tryz.ntmps40
    go_wp2_with (fail)
    refine (hC _).mono ?_
    rintro e w1 ⟨rfl, hb1⟩
    have GR : Hid (w1.heap[w.heap.size]? = some (.cells #[.int .i64 R.i, .int .u32 (R.s : Int), .int .i64 R.sl, .int .u32 (R.d : Int), .int .i64 R.dl, .int .u16 (R.p.1 : Int), .int .u16 (R.p.2 : Int), .int .u16 (R.q.1 : Int), .int .u16 (R.q.2 : Int), .int .u8 (R.m.1 : Int), .int .u8 (R.m.2 : Int), .int .i64 R.act] 64)) := blk_on (blk_new w (.cells #[.int .i64 R.i, .int .u32 (R.s : Int), .int .i64 R.sl, .int .u32 (R.d : Int), .int .i64 R.dl, .int .u16 (R.p.1 : Int), .int .u16 (R.p.2 : Int), .int .u16 (R.q.1 : Int), .int .u16 (R.q.2 : Int), .int .u8 (R.m.1 : Int), .int .u8 (R.m.2 : Int), .int .i64 R.act] 64)) hb1
    have hbl1 : Hid (Below w.heap.size w w1) := bel_step (Below.refl _ _) (bel_a1 _ _) hb1
    clear hb1
    have HR := GR
    clear GR
    have lR := blk_lt HR.out
    have nR : ¬ w.heap.size = w1.heap.size := by omega
    go_wp2_with (fail)
    go_ret
    exact ⟨rfl, hbl1.out⟩
end Go.Proofs.YtgidohnikggjfaaGreat
