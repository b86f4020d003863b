/-
  PkAI: TbRc, one behind the other (tools/pack.py).
-/
import Derived.Test.YtgokmkholjfhbaaGreatPkAG
import Derived.Test.YtgokmkholjfhbaaGreatPkAD
import Derived.Test.YtgokmkholjfhbaaGreatPkAH
import Derived.Deep.DeepCutAuto
import Derived.Test.YtgokmkholjfhbaaGreatPkAE
set_option linter.unusedVariables false
set_option linter.unusedSimpArgs false
namespace Go.Proofs.YtgokmkholjfhbaaGreat
open Go.RowKit
theorem range2 {w : World} {b o : Nat} {v0 v1 : Value} (h0 : w.cell? ⟨b, o, none⟩ = some v0) (h1 : w.cell? ⟨b, o + 1, none⟩ = some v1) : w.rangeAt b o [v0, v1]
 | 0, _, e => by cases e; exact h0
 | 1, _, e => by cases e; exact h1
 | _ + 2, _, e => by cases e
theorem range7 {w : World} {b : Nat} {v0 v1 v2 v3 v4 v5 v6 : Value} {t : TypeId} (h : w.heap[b]? = some (.cells #[v0, v1, v2, v3, v4, v5, v6] t)) : w.cell? ⟨b, 0, none⟩ = some v0 ∧ w.cell? ⟨b, 1, none⟩ = some v1 ∧ w.cell? ⟨b, 2, none⟩ = some v2 ∧ w.cell? ⟨b, 3, none⟩ = some v3 ∧ w.cell? ⟨b, 4, none⟩ = some v4 ∧ w.cell? ⟨b, 5, none⟩ = some v5 ∧ w.cell? ⟨b, 6, none⟩ = some v6 :=
 ⟨blk_cell h rfl, blk_cell h rfl, blk_cell h rfl, blk_cell h rfl, blk_cell h rfl, blk_cell h rfl, blk_cell h rfl⟩
theorem ret_two {a b c d : Int} (h : (a, b) = (c, d)) : Ending.returned (.tuple #[.int .i64 a, .int .i64 b]) = .returned (.tuple #[.int .i64 c, .int .i64 d]) := by cases h; rfl
def zeroK (l : List Int) (k : Nat) : Prop := ∀ j, j < k → l[j]? = some 0
theorem firstE_here {l : List Int} : ∀ {k : Nat} {e : Int} (b : Int), zeroK l k → l[k]? = some e → e ≠ 0 → firstE l b = (e, b + k) := by
 induction l with
 | nil => intro k e b _ h _; cases h
 | cons a l ih =>
  intro k e b hz h hne
  unfold firstE
  cases k with
  | zero =>
   simp at h
   rw [if_neg (by rw [h]; exact hne), h]
   simp
  | succ k =>
   have h0 : a = 0 := by have := hz 0 (Nat.succ_pos _); simpa using this
   rw [if_pos h0, ih (k := k) (b + 1) (fun j hj => by have := hz (j + 1) (Nat.succ_lt_succ hj); simpa using this) (by simpa using h) hne]
   simp only [Prod.mk.injEq, true_and]
   omega
theorem firstE_none {l : List Int} : ∀ (b : Int), zeroK l l.length → firstE l b = (0, 0) := by
 induction l with
 | nil => intro b _; rfl
 | cons a l ih =>
  intro b hz
  unfold firstE
  have h0 : a = 0 := by have := hz 0 (by simp); simpa using this
  rw [if_pos h0]
  exact ih (b + 1) (fun j hj => by have := hz (j + 1) (by simpa using hj); simpa using this)
theorem zeroK_succ {l : List Int} {k : Nat} (h : zeroK l k) (h' : l[k]? = some 0) : zeroK l (k + 1) := fun j hj => by
 by_cases e : j = k
 ·rw [e]; exact h'
 ·exact h j (by omega)
theorem sizeE : Tryz.prog.types[29]!.size = 1 := by kernel_rfl
theorem idxE0 (e0 e1 e2 e3 e4 e5 e6 : Int) (W : World) : (Instr.index 150 (.agg #[.int .i64 e0, .int .i64 e1, .int .i64 e2, .int .i64 e3, .int .i64 e4, .int .i64 e5, .int .i64 e6]) (.int .i64 0)).run Tryz.prog W = .ok (.int .i64 e0) W := by
 simp [Instr.index, run_underlying Tryz.underlying150, asIntOf, go_sem, sizeE]
theorem idxE1 (e0 e1 e2 e3 e4 e5 e6 : Int) (W : World) : (Instr.index 150 (.agg #[.int .i64 e0, .int .i64 e1, .int .i64 e2, .int .i64 e3, .int .i64 e4, .int .i64 e5, .int .i64 e6]) (.int .i64 1)).run Tryz.prog W = .ok (.int .i64 e1) W := by
 simp [Instr.index, run_underlying Tryz.underlying150, asIntOf, go_sem, sizeE]
theorem idxE2 (e0 e1 e2 e3 e4 e5 e6 : Int) (W : World) : (Instr.index 150 (.agg #[.int .i64 e0, .int .i64 e1, .int .i64 e2, .int .i64 e3, .int .i64 e4, .int .i64 e5, .int .i64 e6]) (.int .i64 2)).run Tryz.prog W = .ok (.int .i64 e2) W := by
 simp [Instr.index, run_underlying Tryz.underlying150, asIntOf, go_sem, sizeE]
theorem idxE3 (e0 e1 e2 e3 e4 e5 e6 : Int) (W : World) : (Instr.index 150 (.agg #[.int .i64 e0, .int .i64 e1, .int .i64 e2, .int .i64 e3, .int .i64 e4, .int .i64 e5, .int .i64 e6]) (.int .i64 3)).run Tryz.prog W = .ok (.int .i64 e3) W := by
 simp [Instr.index, run_underlying Tryz.underlying150, asIntOf, go_sem, sizeE]
theorem idxE4 (e0 e1 e2 e3 e4 e5 e6 : Int) (W : World) : (Instr.index 150 (.agg #[.int .i64 e0, .int .i64 e1, .int .i64 e2, .int .i64 e3, .int .i64 e4, .int .i64 e5, .int .i64 e6]) (.int .i64 4)).run Tryz.prog W = .ok (.int .i64 e4) W := by
 simp [Instr.index, run_underlying Tryz.underlying150, asIntOf, go_sem, sizeE]
theorem idxE5 (e0 e1 e2 e3 e4 e5 e6 : Int) (W : World) : (Instr.index 150 (.agg #[.int .i64 e0, .int .i64 e1, .int .i64 e2, .int .i64 e3, .int .i64 e4, .int .i64 e5, .int .i64 e6]) (.int .i64 5)).run Tryz.prog W = .ok (.int .i64 e5) W := by
 simp [Instr.index, run_underlying Tryz.underlying150, asIntOf, go_sem, sizeE]
theorem idxE6 (e0 e1 e2 e3 e4 e5 e6 : Int) (W : World) : (Instr.index 150 (.agg #[.int .i64 e0, .int .i64 e1, .int .i64 e2, .int .i64 e3, .int .i64 e4, .int .i64 e5, .int .i64 e6]) (.int .i64 6)).run Tryz.prog W = .ok (.int .i64 e6) W := by
 simp [Instr.index, run_underlying Tryz.underlying150, asIntOf, go_sem, sizeE]
set_option maxRecDepth 20000 in
set_option maxHeartbeats 4000000 in
theorem checkRC (R : Ru) (w : World) (b : BdR R) :
  Calls Tryz.prog 59 #[.agg #[.int .i64 R.i, .int .u32 R.s, .int .i64 R.sl, .int .u32 R.d, .int .i64 R.dl, .int .u16 R.p.1, .int .u16 R.p.2, .int .u16 R.q.1, .int .u16 R.q.2, .int .u8 R.m.1, .int .u8 R.m.2, .int .i64 R.act]] w fun e w' => e = .returned (.tuple #[.int .i64 (errs R).1, .int .i64 (errs R).2]) ∧ Below w.heap.size w w' := by
 obtain ⟨b1, b2, b3, b4, b5, b6, b7, b8, _⟩ := b
 have k0 := fun W => checkIdC R.i W
 have k1 := fun W => Pf.check_any R.s R.sl W b1
 have k2 := fun W => Pf.check_any R.d R.dl W b2
 have k3 := fun W => checkSp R.p.1 R.p.2 W
 have k4 := fun W => checkSp R.q.1 R.q.2 W
 have k5 := fun W => checkM R.m.1 R.m.2 W b7 b8
 have k6 := fun W => checkActC R.act W
 clear b1 b2 b3 b4 b5 b6 b7 b8
 have HE : Hid (errs R = firstE [errI R.i, Pf.chk R.s R.sl, Pf.chk R.d R.dl, errS R.p.1 R.p.2, errS R.q.1 R.q.2, chk R.m.1 R.m.2, errA R.act] 1) := rfl
 generalize errs R = V at *
 generalize errI R.i = e0 at *
 generalize Pf.chk R.s R.sl = e1 at *
 generalize Pf.chk R.d R.dl = e2 at *
 generalize errS R.p.1 R.p.2 = e3 at *
 generalize errS R.q.1 R.q.2 = e4 at *
 generalize chk R.m.1 R.m.2 = e5 at *
 generalize errA R.act = e6 at *
 have HR := blk_new w (.cells #[.int .i64 R.i, .int .u32 R.s, .int .i64 R.sl, .int .u32 R.d, .int .i64 R.dl, .int .u16 R.p.1, .int .u16 R.p.2, .int .u16 R.q.1, .int .u16 R.q.2, .int .u8 R.m.1, .int .u8 R.m.2, .int .i64 R.act] 64)
 have HW : Hid (Below w.heap.size w (w.alloc (.cells #[.int .i64 R.i, .int .u32 R.s, .int .i64 R.sl, .int .u32 R.d, .int .i64 R.dl, .int .u16 R.p.1, .int .u16 R.p.2, .int .u16 R.q.1, .int .u16 R.q.2, .int .u8 R.m.1, .int .u8 R.m.2, .int .i64 R.act] 64))) := (Below.refl _ _).alloc (Nat.le_refl _) _
 go_enter Tryz.func59, Tryz.ntmps59
 go_upto_region 1 with (fail)
 generalize w.alloc (.cells #[.int .i64 R.i, .int .u32 R.s, .int .i64 R.sl, .int .u32 R.d, .int .i64 R.dl, .int .u16 R.p.1, .int .u16 R.p.2, .int .u16 R.q.1, .int .u16 R.q.2, .int .u8 R.m.1, .int .u8 R.m.2, .int .i64 R.act] 64) = W0 at *
 go_cut [4] (fun s wx => ∃ g : Nat, s = .pointer (some ⟨g, 0, none⟩) ∧ Hid (wx.heap[g]? = some (.cells #[.int .i64 e0, .int .i64 e1, .int .i64 e2, .int .i64 e3, .int .i64 e4, .int .i64 e5, .int .i64 e6] 150)) ∧ Hid (Below W0.heap.size W0 wx))
 case first =>
  obtain ⟨c0, c1, c2, c3, c4, c5, c6, c7, c8, c9, c10, c11⟩ := blk12 HR
  refine wp_region_held_drew (S := fun w' => Below W0.heap.size W0 w') (by kernel_rfl) (Below.drew (Below.refl _ _)) (fun hS0 => ?_)
  show wpAnyH _ _ _ _ _ 24 _ _ _
  refine wpTk (i := 0) (v := .pointer (some ⟨w.heap.size, 0, none⟩)) hS0 ?_
  simp only [nrm]
  refine wpAnyH_take (i := 1) (v := .int .i64 R.i) rfl (by kernel_rfl) (by kernel_rfl) (by kernel_rfl) (fun _ _ _ h => h) (.inl ⟨rfl, fun w' hw' => by have := cell_on1 hw' c0; simp [execOp, go_sem, this]⟩) hS0 ?_
  simp only [nrm]
  refine wpTk (i := 3) (v := .pointer (some ⟨w.heap.size, 1, none⟩)) hS0 ?_
  simp only [nrm]
  refine wpLd (i := 4) rfl (yieldsIf_load_mid rfl 58 (.tmp 10) rfl w.heap.size 1 rfl [.int .u32 R.s, .int .i64 R.sl] _ (fun w' hw' => range2 (cell_on1 hw' c1) (cell_on1 hw' c2)) Tryz.underlying58 rfl (by kernel_rfl)) hS0 ?_
  simp only [nrm]
  refine wpTk (i := 6) (v := .pointer (some ⟨w.heap.size, 3, none⟩)) hS0 ?_
  simp only [nrm]
  refine wpLd (i := 7) rfl (yieldsIf_load_mid rfl 58 (.tmp 13) rfl w.heap.size 3 rfl [.int .u32 R.d, .int .i64 R.dl] _ (fun w' hw' => range2 (cell_on1 hw' c3) (cell_on1 hw' c4)) Tryz.underlying58 rfl (by kernel_rfl)) hS0 ?_
  simp only [nrm]
  refine wpTk (i := 9) (v := .pointer (some ⟨w.heap.size, 5, none⟩)) hS0 ?_
  simp only [nrm]
  refine wpLd (i := 10) rfl (yieldsIf_load_mid rfl 60 (.tmp 16) rfl w.heap.size 5 rfl [.int .u16 R.p.1, .int .u16 R.p.2] _ (fun w' hw' => range2 (cell_on1 hw' c5) (cell_on1 hw' c6)) Tryz.underlying60 rfl (by kernel_rfl)) hS0 ?_
  simp only [nrm]
  refine wpTk (i := 12) (v := .pointer (some ⟨w.heap.size, 7, none⟩)) hS0 ?_
  simp only [nrm]
  refine wpLd (i := 13) rfl (yieldsIf_load_mid rfl 60 (.tmp 19) rfl w.heap.size 7 rfl [.int .u16 R.q.1, .int .u16 R.q.2] _ (fun w' hw' => range2 (cell_on1 hw' c7) (cell_on1 hw' c8)) Tryz.underlying60 rfl (by kernel_rfl)) hS0 ?_
  simp only [nrm]
  refine wpTk (i := 15) (v := .pointer (some ⟨w.heap.size, 9, none⟩)) hS0 ?_
  simp only [nrm]
  refine wpLd (i := 16) rfl (yieldsIf_load_mid rfl 62 (.tmp 22) rfl w.heap.size 9 rfl [.int .u8 R.m.1, .int .u8 R.m.2] _ (fun w' hw' => range2 (cell_on1 hw' c9) (cell_on1 hw' c10)) Tryz.underlying62 rfl (by kernel_rfl)) hS0 ?_
  simp only [nrm]
  refine wpTk (i := 18) (v := .pointer (some ⟨w.heap.size, 11, none⟩)) hS0 ?_
  simp only [nrm]
  refine wpAnyH_take (i := 19) (v := .int .i64 R.act) rfl (by kernel_rfl) (by kernel_rfl) (by kernel_rfl) (fun _ _ _ h => h) (.inl ⟨rfl, fun w' hw' => by have := cell_on1 hw' c11; simp [execOp, go_sem, this]⟩) hS0 ?_
  simp only [nrm]
  refine wpAnyH_all (rs := [2, 22]) (by kernel_rfl) (by simp) ?_
  intro i hi
  simp only [mmL] at hi
  rcases hi with rfl | rfl
  ·refine wpOp_of_wp rfl rfl (fun K' hK' => ?_)
   go_wp2_with (go_at_call 74; refine (k0 _).mono ?_; rintro e w1 ⟨rfl, hw1⟩)
   have Sw1 : Below W0.heap.size W0 w1 := (hS0).trans (hw1.mono (hS0).size)
   refine ⟨Sw1, ?_⟩
   refine wpAnyH_all (rs := [5, 22]) (by kernel_rfl) (by simp) ?_
   intro i hi
   simp only [mmL] at hi
   rcases hi with rfl | rfl
   ·refine wpOp_of_wp rfl rfl (fun K' hK' => ?_)
    go_wp2_with (go_at_call 67; refine (k1 _).mono ?_; rintro e w2 ⟨rfl, hw2⟩)
    have Sw2 : Below W0.heap.size W0 w2 := (Sw1).trans (hw2.mono (Sw1).size)
    refine ⟨Sw2, ?_⟩
    refine wpAnyH_all (rs := [8, 22]) (by kernel_rfl) (by simp) ?_
    intro i hi
    simp only [mmL] at hi
    rcases hi with rfl | rfl
    ·refine wpOp_of_wp rfl rfl (fun K' hK' => ?_)
     go_wp2_with (go_at_call 67; refine (k2 _).mono ?_; rintro e w3 ⟨rfl, hw3⟩)
     have Sw3 : Below W0.heap.size W0 w3 := (Sw2).trans (hw3.mono (Sw2).size)
     refine ⟨Sw3, ?_⟩
     refine wpAnyH_all (rs := [11, 22]) (by kernel_rfl) (by simp) ?_
     intro i hi
     simp only [mmL] at hi
     rcases hi with rfl | rfl
     ·refine wpOp_of_wp rfl rfl (fun K' hK' => ?_)
      go_wp2_with (go_at_call 75; refine (k3 _).mono ?_; rintro e w4 ⟨rfl, hw4⟩)
      have Sw4 : Below W0.heap.size W0 w4 := (Sw3).trans (hw4.mono (Sw3).size)
      refine ⟨Sw4, ?_⟩
      refine wpAnyH_all (rs := [14, 22]) (by kernel_rfl) (by simp) ?_
      intro i hi
      simp only [mmL] at hi
      rcases hi with rfl | rfl
      ·refine wpOp_of_wp rfl rfl (fun K' hK' => ?_)
       go_wp2_with (go_at_call 75; refine (k4 _).mono ?_; rintro e w5 ⟨rfl, hw5⟩)
       have Sw5 : Below W0.heap.size W0 w5 := (Sw4).trans (hw5.mono (Sw4).size)
       refine ⟨Sw5, ?_⟩
       refine wpAnyH_all (rs := [17, 22]) (by kernel_rfl) (by simp) ?_
       intro i hi
       simp only [mmL] at hi
       rcases hi with rfl | rfl
       ·refine wpOp_of_wp rfl rfl (fun K' hK' => ?_)
        go_wp2_with (go_at_call 76; refine (k5 _).mono ?_; rintro e w6 ⟨rfl, hw6⟩)
        have Sw6 : Below W0.heap.size W0 w6 := (Sw5).trans (hw6.mono (Sw5).size)
        refine ⟨Sw6, ?_⟩
        refine wpAnyH_all (rs := [20, 22]) (by kernel_rfl) (by simp) ?_
        intro i hi
        simp only [mmL] at hi
        rcases hi with rfl | rfl
        ·refine wpOp_of_wp rfl rfl (fun K' hK' => ?_)
         go_wp2_with (go_at_call 77; refine (k6 _).mono ?_; rintro e w7 ⟨rfl, hw7⟩)
         have Sw7 : Below W0.heap.size W0 w7 := (Sw6).trans (hw7.mono (Sw6).size)
         refine ⟨Sw7, ?_⟩
         refine wpTk (i := 21) (v := .agg #[.int .i64 e0, .int .i64 e1, .int .i64 e2, .int .i64 e3, .int .i64 e4, .int .i64 e5, .int .i64 e6]) Sw7 ?_
         simp only [nrm]
         refine wpO 22 (fun K' hK' => ?_)
         go_wp2_with (fail)
         have Sa : Below W0.heap.size W0 (w7.alloc (.cells #[.int .i64 0, .int .i64 0, .int .i64 0, .int .i64 0, .int .i64 0, .int .i64 0, .int .i64 0] 150)) := (Sw7).alloc (Sw7).size _
         have hzG : W0.heap.size ≤ w7.heap.size := (Sw7).size
         have ba : (w7.alloc (.cells #[.int .i64 0, .int .i64 0, .int .i64 0, .int .i64 0, .int .i64 0, .int .i64 0, .int .i64 0] 150)).heap[w7.heap.size]? = some (.cells #[.int .i64 0, .int .i64 0, .int .i64 0, .int .i64 0, .int .i64 0, .int .i64 0, .int .i64 0] 150) := blk_new w7 _
         refine ⟨Sa, ?_⟩
         have Saz : W0.heap.size ≤ w7.heap.size := hzG
         refine wpO 23 (fun K' hK' => ?_)
         refine wpSt 150 (.tmp 4) (.tmp 28) rfl w7.heap.size 0 #[.int .i64 e0, .int .i64 e1, .int .i64 e2, .int .i64 e3, .int .i64 e4, .int .i64 e5, .int .i64 e6] #[.int .i64 e0, .int .i64 e1, .int .i64 e2, .int .i64 e3, .int .i64 e4, .int .i64 e5, .int .i64 e6] rfl rfl 150 _ ba (fun w9 h9 ho9 => hK' _ _ ⟨?_, ?_⟩)
         ·exact (Sa).trans (ho9.below (Saz))
         ·refine wpAnyH_done (by kernel_rfl) ?_ _
          simp only [nrm]
          have HS9 : Hid (Below W0.heap.size W0 w9) := (Sa).trans (ho9.below (Saz))
          go_wp2_with (fail)
          go_meet
          case rel => exact ⟨_, rfl, h9, HS9.out⟩
        ·refine wpOp_of_wp rfl rfl (fun K' hK' => ?_)
         go_wp2_with (fail)
         have Sa : Below W0.heap.size W0 (w6.alloc (.cells #[.int .i64 0, .int .i64 0, .int .i64 0, .int .i64 0, .int .i64 0, .int .i64 0, .int .i64 0] 150)) := (Sw6).alloc (Sw6).size _
         have hzG : W0.heap.size ≤ w6.heap.size := (Sw6).size
         have ba : (w6.alloc (.cells #[.int .i64 0, .int .i64 0, .int .i64 0, .int .i64 0, .int .i64 0, .int .i64 0, .int .i64 0] 150)).heap[w6.heap.size]? = some (.cells #[.int .i64 0, .int .i64 0, .int .i64 0, .int .i64 0, .int .i64 0, .int .i64 0, .int .i64 0] 150) := blk_new w6 _
         refine ⟨Sa, ?_⟩
         refine wpO 20 (fun K' hK' => ?_)
         go_wp2_with (go_at_call 77; refine (k6 _).mono ?_; rintro e w7g ⟨rfl, hw7g⟩)
         have Sw7g : Below W0.heap.size W0 w7g := (Sa).trans (hw7g.mono (Sa).size)
         have bw7g : w7g.heap[w6.heap.size]? = some (.cells #[.int .i64 0, .int .i64 0, .int .i64 0, .int .i64 0, .int .i64 0, .int .i64 0, .int .i64 0] 150) := blk_on ba hw7g
         refine ⟨Sw7g, ?_⟩
         refine wpTk (i := 21) (v := .agg #[.int .i64 e0, .int .i64 e1, .int .i64 e2, .int .i64 e3, .int .i64 e4, .int .i64 e5, .int .i64 e6]) Sw7g ?_
         simp only [nrm]
         have Sw7gz : W0.heap.size ≤ w6.heap.size := hzG
         refine wpO 23 (fun K' hK' => ?_)
         refine wpSt 150 (.tmp 4) (.tmp 28) rfl w6.heap.size 0 #[.int .i64 e0, .int .i64 e1, .int .i64 e2, .int .i64 e3, .int .i64 e4, .int .i64 e5, .int .i64 e6] #[.int .i64 e0, .int .i64 e1, .int .i64 e2, .int .i64 e3, .int .i64 e4, .int .i64 e5, .int .i64 e6] rfl rfl 150 _ bw7g (fun w9 h9 ho9 => hK' _ _ ⟨?_, ?_⟩)
         ·exact (Sw7g).trans (ho9.below (Sw7gz))
         ·refine wpAnyH_done (by kernel_rfl) ?_ _
          simp only [nrm]
          have HS9 : Hid (Below W0.heap.size W0 w9) := (Sw7g).trans (ho9.below (Sw7gz))
          go_wp2_with (fail)
          go_meet
          case rel => exact ⟨_, rfl, h9, HS9.out⟩
       ·refine wpOp_of_wp rfl rfl (fun K' hK' => ?_)
        go_wp2_with (fail)
        have Sa : Below W0.heap.size W0 (w5.alloc (.cells #[.int .i64 0, .int .i64 0, .int .i64 0, .int .i64 0, .int .i64 0, .int .i64 0, .int .i64 0] 150)) := (Sw5).alloc (Sw5).size _
        have hzG : W0.heap.size ≤ w5.heap.size := (Sw5).size
        have ba : (w5.alloc (.cells #[.int .i64 0, .int .i64 0, .int .i64 0, .int .i64 0, .int .i64 0, .int .i64 0, .int .i64 0] 150)).heap[w5.heap.size]? = some (.cells #[.int .i64 0, .int .i64 0, .int .i64 0, .int .i64 0, .int .i64 0, .int .i64 0, .int .i64 0] 150) := blk_new w5 _
        refine ⟨Sa, ?_⟩
        refine wpO 17 (fun K' hK' => ?_)
        go_wp2_with (go_at_call 76; refine (k5 _).mono ?_; rintro e w6f ⟨rfl, hw6f⟩)
        have Sw6f : Below W0.heap.size W0 w6f := (Sa).trans (hw6f.mono (Sa).size)
        have bw6f : w6f.heap[w5.heap.size]? = some (.cells #[.int .i64 0, .int .i64 0, .int .i64 0, .int .i64 0, .int .i64 0, .int .i64 0, .int .i64 0] 150) := blk_on ba hw6f
        refine ⟨Sw6f, ?_⟩
        refine wpO 20 (fun K' hK' => ?_)
        go_wp2_with (go_at_call 77; refine (k6 _).mono ?_; rintro e w7f ⟨rfl, hw7f⟩)
        have Sw7f : Below W0.heap.size W0 w7f := (Sw6f).trans (hw7f.mono (Sw6f).size)
        have bw7f : w7f.heap[w5.heap.size]? = some (.cells #[.int .i64 0, .int .i64 0, .int .i64 0, .int .i64 0, .int .i64 0, .int .i64 0, .int .i64 0] 150) := blk_on bw6f hw7f
        refine ⟨Sw7f, ?_⟩
        refine wpTk (i := 21) (v := .agg #[.int .i64 e0, .int .i64 e1, .int .i64 e2, .int .i64 e3, .int .i64 e4, .int .i64 e5, .int .i64 e6]) Sw7f ?_
        simp only [nrm]
        have Sw7fz : W0.heap.size ≤ w5.heap.size := hzG
        refine wpO 23 (fun K' hK' => ?_)
        refine wpSt 150 (.tmp 4) (.tmp 28) rfl w5.heap.size 0 #[.int .i64 e0, .int .i64 e1, .int .i64 e2, .int .i64 e3, .int .i64 e4, .int .i64 e5, .int .i64 e6] #[.int .i64 e0, .int .i64 e1, .int .i64 e2, .int .i64 e3, .int .i64 e4, .int .i64 e5, .int .i64 e6] rfl rfl 150 _ bw7f (fun w9 h9 ho9 => hK' _ _ ⟨?_, ?_⟩)
        ·exact (Sw7f).trans (ho9.below (Sw7fz))
        ·refine wpAnyH_done (by kernel_rfl) ?_ _
         simp only [nrm]
         have HS9 : Hid (Below W0.heap.size W0 w9) := (Sw7f).trans (ho9.below (Sw7fz))
         go_wp2_with (fail)
         go_meet
         case rel => exact ⟨_, rfl, h9, HS9.out⟩
      ·refine wpOp_of_wp rfl rfl (fun K' hK' => ?_)
       go_wp2_with (fail)
       have Sa : Below W0.heap.size W0 (w4.alloc (.cells #[.int .i64 0, .int .i64 0, .int .i64 0, .int .i64 0, .int .i64 0, .int .i64 0, .int .i64 0] 150)) := (Sw4).alloc (Sw4).size _
       have hzG : W0.heap.size ≤ w4.heap.size := (Sw4).size
       have ba : (w4.alloc (.cells #[.int .i64 0, .int .i64 0, .int .i64 0, .int .i64 0, .int .i64 0, .int .i64 0, .int .i64 0] 150)).heap[w4.heap.size]? = some (.cells #[.int .i64 0, .int .i64 0, .int .i64 0, .int .i64 0, .int .i64 0, .int .i64 0, .int .i64 0] 150) := blk_new w4 _
       refine ⟨Sa, ?_⟩
       refine wpO 14 (fun K' hK' => ?_)
       go_wp2_with (go_at_call 75; refine (k4 _).mono ?_; rintro e w5e ⟨rfl, hw5e⟩)
       have Sw5e : Below W0.heap.size W0 w5e := (Sa).trans (hw5e.mono (Sa).size)
       have bw5e : w5e.heap[w4.heap.size]? = some (.cells #[.int .i64 0, .int .i64 0, .int .i64 0, .int .i64 0, .int .i64 0, .int .i64 0, .int .i64 0] 150) := blk_on ba hw5e
       refine ⟨Sw5e, ?_⟩
       refine wpO 17 (fun K' hK' => ?_)
       go_wp2_with (go_at_call 76; refine (k5 _).mono ?_; rintro e w6e ⟨rfl, hw6e⟩)
       have Sw6e : Below W0.heap.size W0 w6e := (Sw5e).trans (hw6e.mono (Sw5e).size)
       have bw6e : w6e.heap[w4.heap.size]? = some (.cells #[.int .i64 0, .int .i64 0, .int .i64 0, .int .i64 0, .int .i64 0, .int .i64 0, .int .i64 0] 150) := blk_on bw5e hw6e
       refine ⟨Sw6e, ?_⟩
       refine wpO 20 (fun K' hK' => ?_)
       go_wp2_with (go_at_call 77; refine (k6 _).mono ?_; rintro e w7e ⟨rfl, hw7e⟩)
       have Sw7e : Below W0.heap.size W0 w7e := (Sw6e).trans (hw7e.mono (Sw6e).size)
       have bw7e : w7e.heap[w4.heap.size]? = some (.cells #[.int .i64 0, .int .i64 0, .int .i64 0, .int .i64 0, .int .i64 0, .int .i64 0, .int .i64 0] 150) := blk_on bw6e hw7e
       refine ⟨Sw7e, ?_⟩
       refine wpTk (i := 21) (v := .agg #[.int .i64 e0, .int .i64 e1, .int .i64 e2, .int .i64 e3, .int .i64 e4, .int .i64 e5, .int .i64 e6]) Sw7e ?_
       simp only [nrm]
       have Sw7ez : W0.heap.size ≤ w4.heap.size := hzG
       refine wpO 23 (fun K' hK' => ?_)
       refine wpSt 150 (.tmp 4) (.tmp 28) rfl w4.heap.size 0 #[.int .i64 e0, .int .i64 e1, .int .i64 e2, .int .i64 e3, .int .i64 e4, .int .i64 e5, .int .i64 e6] #[.int .i64 e0, .int .i64 e1, .int .i64 e2, .int .i64 e3, .int .i64 e4, .int .i64 e5, .int .i64 e6] rfl rfl 150 _ bw7e (fun w9 h9 ho9 => hK' _ _ ⟨?_, ?_⟩)
       ·exact (Sw7e).trans (ho9.below (Sw7ez))
       ·refine wpAnyH_done (by kernel_rfl) ?_ _
        simp only [nrm]
        have HS9 : Hid (Below W0.heap.size W0 w9) := (Sw7e).trans (ho9.below (Sw7ez))
        go_wp2_with (fail)
        go_meet
        case rel => exact ⟨_, rfl, h9, HS9.out⟩
     ·refine wpOp_of_wp rfl rfl (fun K' hK' => ?_)
      go_wp2_with (fail)
      have Sa : Below W0.heap.size W0 (w3.alloc (.cells #[.int .i64 0, .int .i64 0, .int .i64 0, .int .i64 0, .int .i64 0, .int .i64 0, .int .i64 0] 150)) := (Sw3).alloc (Sw3).size _
      have hzG : W0.heap.size ≤ w3.heap.size := (Sw3).size
      have ba : (w3.alloc (.cells #[.int .i64 0, .int .i64 0, .int .i64 0, .int .i64 0, .int .i64 0, .int .i64 0, .int .i64 0] 150)).heap[w3.heap.size]? = some (.cells #[.int .i64 0, .int .i64 0, .int .i64 0, .int .i64 0, .int .i64 0, .int .i64 0, .int .i64 0] 150) := blk_new w3 _
      refine ⟨Sa, ?_⟩
      refine wpO 11 (fun K' hK' => ?_)
      go_wp2_with (go_at_call 75; refine (k3 _).mono ?_; rintro e w4d ⟨rfl, hw4d⟩)
      have Sw4d : Below W0.heap.size W0 w4d := (Sa).trans (hw4d.mono (Sa).size)
      have bw4d : w4d.heap[w3.heap.size]? = some (.cells #[.int .i64 0, .int .i64 0, .int .i64 0, .int .i64 0, .int .i64 0, .int .i64 0, .int .i64 0] 150) := blk_on ba hw4d
      refine ⟨Sw4d, ?_⟩
      refine wpO 14 (fun K' hK' => ?_)
      go_wp2_with (go_at_call 75; refine (k4 _).mono ?_; rintro e w5d ⟨rfl, hw5d⟩)
      have Sw5d : Below W0.heap.size W0 w5d := (Sw4d).trans (hw5d.mono (Sw4d).size)
      have bw5d : w5d.heap[w3.heap.size]? = some (.cells #[.int .i64 0, .int .i64 0, .int .i64 0, .int .i64 0, .int .i64 0, .int .i64 0, .int .i64 0] 150) := blk_on bw4d hw5d
      refine ⟨Sw5d, ?_⟩
      refine wpO 17 (fun K' hK' => ?_)
      go_wp2_with (go_at_call 76; refine (k5 _).mono ?_; rintro e w6d ⟨rfl, hw6d⟩)
      have Sw6d : Below W0.heap.size W0 w6d := (Sw5d).trans (hw6d.mono (Sw5d).size)
      have bw6d : w6d.heap[w3.heap.size]? = some (.cells #[.int .i64 0, .int .i64 0, .int .i64 0, .int .i64 0, .int .i64 0, .int .i64 0, .int .i64 0] 150) := blk_on bw5d hw6d
      refine ⟨Sw6d, ?_⟩
      refine wpO 20 (fun K' hK' => ?_)
      go_wp2_with (go_at_call 77; refine (k6 _).mono ?_; rintro e w7d ⟨rfl, hw7d⟩)
      have Sw7d : Below W0.heap.size W0 w7d := (Sw6d).trans (hw7d.mono (Sw6d).size)
      have bw7d : w7d.heap[w3.heap.size]? = some (.cells #[.int .i64 0, .int .i64 0, .int .i64 0, .int .i64 0, .int .i64 0, .int .i64 0, .int .i64 0] 150) := blk_on bw6d hw7d
      refine ⟨Sw7d, ?_⟩
      refine wpTk (i := 21) (v := .agg #[.int .i64 e0, .int .i64 e1, .int .i64 e2, .int .i64 e3, .int .i64 e4, .int .i64 e5, .int .i64 e6]) Sw7d ?_
      simp only [nrm]
      have Sw7dz : W0.heap.size ≤ w3.heap.size := hzG
      refine wpO 23 (fun K' hK' => ?_)
      refine wpSt 150 (.tmp 4) (.tmp 28) rfl w3.heap.size 0 #[.int .i64 e0, .int .i64 e1, .int .i64 e2, .int .i64 e3, .int .i64 e4, .int .i64 e5, .int .i64 e6] #[.int .i64 e0, .int .i64 e1, .int .i64 e2, .int .i64 e3, .int .i64 e4, .int .i64 e5, .int .i64 e6] rfl rfl 150 _ bw7d (fun w9 h9 ho9 => hK' _ _ ⟨?_, ?_⟩)
      ·exact (Sw7d).trans (ho9.below (Sw7dz))
      ·refine wpAnyH_done (by kernel_rfl) ?_ _
       simp only [nrm]
       have HS9 : Hid (Below W0.heap.size W0 w9) := (Sw7d).trans (ho9.below (Sw7dz))
       go_wp2_with (fail)
       go_meet
       case rel => exact ⟨_, rfl, h9, HS9.out⟩
    ·refine wpOp_of_wp rfl rfl (fun K' hK' => ?_)
     go_wp2_with (fail)
     have Sa : Below W0.heap.size W0 (w2.alloc (.cells #[.int .i64 0, .int .i64 0, .int .i64 0, .int .i64 0, .int .i64 0, .int .i64 0, .int .i64 0] 150)) := (Sw2).alloc (Sw2).size _
     have hzG : W0.heap.size ≤ w2.heap.size := (Sw2).size
     have ba : (w2.alloc (.cells #[.int .i64 0, .int .i64 0, .int .i64 0, .int .i64 0, .int .i64 0, .int .i64 0, .int .i64 0] 150)).heap[w2.heap.size]? = some (.cells #[.int .i64 0, .int .i64 0, .int .i64 0, .int .i64 0, .int .i64 0, .int .i64 0, .int .i64 0] 150) := blk_new w2 _
     refine ⟨Sa, ?_⟩
     refine wpO 8 (fun K' hK' => ?_)
     go_wp2_with (go_at_call 67; refine (k2 _).mono ?_; rintro e w3c ⟨rfl, hw3c⟩)
     have Sw3c : Below W0.heap.size W0 w3c := (Sa).trans (hw3c.mono (Sa).size)
     have bw3c : w3c.heap[w2.heap.size]? = some (.cells #[.int .i64 0, .int .i64 0, .int .i64 0, .int .i64 0, .int .i64 0, .int .i64 0, .int .i64 0] 150) := blk_on ba hw3c
     refine ⟨Sw3c, ?_⟩
     refine wpO 11 (fun K' hK' => ?_)
     go_wp2_with (go_at_call 75; refine (k3 _).mono ?_; rintro e w4c ⟨rfl, hw4c⟩)
     have Sw4c : Below W0.heap.size W0 w4c := (Sw3c).trans (hw4c.mono (Sw3c).size)
     have bw4c : w4c.heap[w2.heap.size]? = some (.cells #[.int .i64 0, .int .i64 0, .int .i64 0, .int .i64 0, .int .i64 0, .int .i64 0, .int .i64 0] 150) := blk_on bw3c hw4c
     refine ⟨Sw4c, ?_⟩
     refine wpO 14 (fun K' hK' => ?_)
     go_wp2_with (go_at_call 75; refine (k4 _).mono ?_; rintro e w5c ⟨rfl, hw5c⟩)
     have Sw5c : Below W0.heap.size W0 w5c := (Sw4c).trans (hw5c.mono (Sw4c).size)
     have bw5c : w5c.heap[w2.heap.size]? = some (.cells #[.int .i64 0, .int .i64 0, .int .i64 0, .int .i64 0, .int .i64 0, .int .i64 0, .int .i64 0] 150) := blk_on bw4c hw5c
     refine ⟨Sw5c, ?_⟩
     refine wpO 17 (fun K' hK' => ?_)
     go_wp2_with (go_at_call 76; refine (k5 _).mono ?_; rintro e w6c ⟨rfl, hw6c⟩)
     have Sw6c : Below W0.heap.size W0 w6c := (Sw5c).trans (hw6c.mono (Sw5c).size)
     have bw6c : w6c.heap[w2.heap.size]? = some (.cells #[.int .i64 0, .int .i64 0, .int .i64 0, .int .i64 0, .int .i64 0, .int .i64 0, .int .i64 0] 150) := blk_on bw5c hw6c
     refine ⟨Sw6c, ?_⟩
     refine wpO 20 (fun K' hK' => ?_)
     go_wp2_with (go_at_call 77; refine (k6 _).mono ?_; rintro e w7c ⟨rfl, hw7c⟩)
     have Sw7c : Below W0.heap.size W0 w7c := (Sw6c).trans (hw7c.mono (Sw6c).size)
     have bw7c : w7c.heap[w2.heap.size]? = some (.cells #[.int .i64 0, .int .i64 0, .int .i64 0, .int .i64 0, .int .i64 0, .int .i64 0, .int .i64 0] 150) := blk_on bw6c hw7c
     refine ⟨Sw7c, ?_⟩
     refine wpTk (i := 21) (v := .agg #[.int .i64 e0, .int .i64 e1, .int .i64 e2, .int .i64 e3, .int .i64 e4, .int .i64 e5, .int .i64 e6]) Sw7c ?_
     simp only [nrm]
     have Sw7cz : W0.heap.size ≤ w2.heap.size := hzG
     refine wpO 23 (fun K' hK' => ?_)
     refine wpSt 150 (.tmp 4) (.tmp 28) rfl w2.heap.size 0 #[.int .i64 e0, .int .i64 e1, .int .i64 e2, .int .i64 e3, .int .i64 e4, .int .i64 e5, .int .i64 e6] #[.int .i64 e0, .int .i64 e1, .int .i64 e2, .int .i64 e3, .int .i64 e4, .int .i64 e5, .int .i64 e6] rfl rfl 150 _ bw7c (fun w9 h9 ho9 => hK' _ _ ⟨?_, ?_⟩)
     ·exact (Sw7c).trans (ho9.below (Sw7cz))
     ·refine wpAnyH_done (by kernel_rfl) ?_ _
      simp only [nrm]
      have HS9 : Hid (Below W0.heap.size W0 w9) := (Sw7c).trans (ho9.below (Sw7cz))
      go_wp2_with (fail)
      go_meet
      case rel => exact ⟨_, rfl, h9, HS9.out⟩
   ·refine wpOp_of_wp rfl rfl (fun K' hK' => ?_)
    go_wp2_with (fail)
    have Sa : Below W0.heap.size W0 (w1.alloc (.cells #[.int .i64 0, .int .i64 0, .int .i64 0, .int .i64 0, .int .i64 0, .int .i64 0, .int .i64 0] 150)) := (Sw1).alloc (Sw1).size _
    have hzG : W0.heap.size ≤ w1.heap.size := (Sw1).size
    have ba : (w1.alloc (.cells #[.int .i64 0, .int .i64 0, .int .i64 0, .int .i64 0, .int .i64 0, .int .i64 0, .int .i64 0] 150)).heap[w1.heap.size]? = some (.cells #[.int .i64 0, .int .i64 0, .int .i64 0, .int .i64 0, .int .i64 0, .int .i64 0, .int .i64 0] 150) := blk_new w1 _
    refine ⟨Sa, ?_⟩
    refine wpO 5 (fun K' hK' => ?_)
    go_wp2_with (go_at_call 67; refine (k1 _).mono ?_; rintro e w2b ⟨rfl, hw2b⟩)
    have Sw2b : Below W0.heap.size W0 w2b := (Sa).trans (hw2b.mono (Sa).size)
    have bw2b : w2b.heap[w1.heap.size]? = some (.cells #[.int .i64 0, .int .i64 0, .int .i64 0, .int .i64 0, .int .i64 0, .int .i64 0, .int .i64 0] 150) := blk_on ba hw2b
    refine ⟨Sw2b, ?_⟩
    refine wpO 8 (fun K' hK' => ?_)
    go_wp2_with (go_at_call 67; refine (k2 _).mono ?_; rintro e w3b ⟨rfl, hw3b⟩)
    have Sw3b : Below W0.heap.size W0 w3b := (Sw2b).trans (hw3b.mono (Sw2b).size)
    have bw3b : w3b.heap[w1.heap.size]? = some (.cells #[.int .i64 0, .int .i64 0, .int .i64 0, .int .i64 0, .int .i64 0, .int .i64 0, .int .i64 0] 150) := blk_on bw2b hw3b
    refine ⟨Sw3b, ?_⟩
    refine wpO 11 (fun K' hK' => ?_)
    go_wp2_with (go_at_call 75; refine (k3 _).mono ?_; rintro e w4b ⟨rfl, hw4b⟩)
    have Sw4b : Below W0.heap.size W0 w4b := (Sw3b).trans (hw4b.mono (Sw3b).size)
    have bw4b : w4b.heap[w1.heap.size]? = some (.cells #[.int .i64 0, .int .i64 0, .int .i64 0, .int .i64 0, .int .i64 0, .int .i64 0, .int .i64 0] 150) := blk_on bw3b hw4b
    refine ⟨Sw4b, ?_⟩
    refine wpO 14 (fun K' hK' => ?_)
    go_wp2_with (go_at_call 75; refine (k4 _).mono ?_; rintro e w5b ⟨rfl, hw5b⟩)
    have Sw5b : Below W0.heap.size W0 w5b := (Sw4b).trans (hw5b.mono (Sw4b).size)
    have bw5b : w5b.heap[w1.heap.size]? = some (.cells #[.int .i64 0, .int .i64 0, .int .i64 0, .int .i64 0, .int .i64 0, .int .i64 0, .int .i64 0] 150) := blk_on bw4b hw5b
    refine ⟨Sw5b, ?_⟩
    refine wpO 17 (fun K' hK' => ?_)
    go_wp2_with (go_at_call 76; refine (k5 _).mono ?_; rintro e w6b ⟨rfl, hw6b⟩)
    have Sw6b : Below W0.heap.size W0 w6b := (Sw5b).trans (hw6b.mono (Sw5b).size)
    have bw6b : w6b.heap[w1.heap.size]? = some (.cells #[.int .i64 0, .int .i64 0, .int .i64 0, .int .i64 0, .int .i64 0, .int .i64 0, .int .i64 0] 150) := blk_on bw5b hw6b
    refine ⟨Sw6b, ?_⟩
    refine wpO 20 (fun K' hK' => ?_)
    go_wp2_with (go_at_call 77; refine (k6 _).mono ?_; rintro e w7b ⟨rfl, hw7b⟩)
    have Sw7b : Below W0.heap.size W0 w7b := (Sw6b).trans (hw7b.mono (Sw6b).size)
    have bw7b : w7b.heap[w1.heap.size]? = some (.cells #[.int .i64 0, .int .i64 0, .int .i64 0, .int .i64 0, .int .i64 0, .int .i64 0, .int .i64 0] 150) := blk_on bw6b hw7b
    refine ⟨Sw7b, ?_⟩
    refine wpTk (i := 21) (v := .agg #[.int .i64 e0, .int .i64 e1, .int .i64 e2, .int .i64 e3, .int .i64 e4, .int .i64 e5, .int .i64 e6]) Sw7b ?_
    simp only [nrm]
    have Sw7bz : W0.heap.size ≤ w1.heap.size := hzG
    refine wpO 23 (fun K' hK' => ?_)
    refine wpSt 150 (.tmp 4) (.tmp 28) rfl w1.heap.size 0 #[.int .i64 e0, .int .i64 e1, .int .i64 e2, .int .i64 e3, .int .i64 e4, .int .i64 e5, .int .i64 e6] #[.int .i64 e0, .int .i64 e1, .int .i64 e2, .int .i64 e3, .int .i64 e4, .int .i64 e5, .int .i64 e6] rfl rfl 150 _ bw7b (fun w9 h9 ho9 => hK' _ _ ⟨?_, ?_⟩)
    ·exact (Sw7b).trans (ho9.below (Sw7bz))
    ·refine wpAnyH_done (by kernel_rfl) ?_ _
     simp only [nrm]
     have HS9 : Hid (Below W0.heap.size W0 w9) := (Sw7b).trans (ho9.below (Sw7bz))
     go_wp2_with (fail)
     go_meet
     case rel => exact ⟨_, rfl, h9, HS9.out⟩
  ·refine wpOp_of_wp rfl rfl (fun K' hK' => ?_)
   go_wp2_with (fail)
   have Sa : Below W0.heap.size W0 (W0.drew.alloc (.cells #[.int .i64 0, .int .i64 0, .int .i64 0, .int .i64 0, .int .i64 0, .int .i64 0, .int .i64 0] 150)) := (hS0).alloc (hS0).size _
   have hzG : W0.heap.size ≤ W0.heap.size := (hS0).size
   have ba : (W0.drew.alloc (.cells #[.int .i64 0, .int .i64 0, .int .i64 0, .int .i64 0, .int .i64 0, .int .i64 0, .int .i64 0] 150)).heap[W0.heap.size]? = some (.cells #[.int .i64 0, .int .i64 0, .int .i64 0, .int .i64 0, .int .i64 0, .int .i64 0, .int .i64 0] 150) := blk_new W0.drew _
   refine ⟨Sa, ?_⟩
   refine wpO 2 (fun K' hK' => ?_)
   go_wp2_with (go_at_call 74; refine (k0 _).mono ?_; rintro e w1a ⟨rfl, hw1a⟩)
   have Sw1a : Below W0.heap.size W0 w1a := (Sa).trans (hw1a.mono (Sa).size)
   have bw1a : w1a.heap[W0.heap.size]? = some (.cells #[.int .i64 0, .int .i64 0, .int .i64 0, .int .i64 0, .int .i64 0, .int .i64 0, .int .i64 0] 150) := blk_on ba hw1a
   refine ⟨Sw1a, ?_⟩
   refine wpO 5 (fun K' hK' => ?_)
   go_wp2_with (go_at_call 67; refine (k1 _).mono ?_; rintro e w2a ⟨rfl, hw2a⟩)
   have Sw2a : Below W0.heap.size W0 w2a := (Sw1a).trans (hw2a.mono (Sw1a).size)
   have bw2a : w2a.heap[W0.heap.size]? = some (.cells #[.int .i64 0, .int .i64 0, .int .i64 0, .int .i64 0, .int .i64 0, .int .i64 0, .int .i64 0] 150) := blk_on bw1a hw2a
   refine ⟨Sw2a, ?_⟩
   refine wpO 8 (fun K' hK' => ?_)
   go_wp2_with (go_at_call 67; refine (k2 _).mono ?_; rintro e w3a ⟨rfl, hw3a⟩)
   have Sw3a : Below W0.heap.size W0 w3a := (Sw2a).trans (hw3a.mono (Sw2a).size)
   have bw3a : w3a.heap[W0.heap.size]? = some (.cells #[.int .i64 0, .int .i64 0, .int .i64 0, .int .i64 0, .int .i64 0, .int .i64 0, .int .i64 0] 150) := blk_on bw2a hw3a
   refine ⟨Sw3a, ?_⟩
   refine wpO 11 (fun K' hK' => ?_)
   go_wp2_with (go_at_call 75; refine (k3 _).mono ?_; rintro e w4a ⟨rfl, hw4a⟩)
   have Sw4a : Below W0.heap.size W0 w4a := (Sw3a).trans (hw4a.mono (Sw3a).size)
   have bw4a : w4a.heap[W0.heap.size]? = some (.cells #[.int .i64 0, .int .i64 0, .int .i64 0, .int .i64 0, .int .i64 0, .int .i64 0, .int .i64 0] 150) := blk_on bw3a hw4a
   refine ⟨Sw4a, ?_⟩
   refine wpO 14 (fun K' hK' => ?_)
   go_wp2_with (go_at_call 75; refine (k4 _).mono ?_; rintro e w5a ⟨rfl, hw5a⟩)
   have Sw5a : Below W0.heap.size W0 w5a := (Sw4a).trans (hw5a.mono (Sw4a).size)
   have bw5a : w5a.heap[W0.heap.size]? = some (.cells #[.int .i64 0, .int .i64 0, .int .i64 0, .int .i64 0, .int .i64 0, .int .i64 0, .int .i64 0] 150) := blk_on bw4a hw5a
   refine ⟨Sw5a, ?_⟩
   refine wpO 17 (fun K' hK' => ?_)
   go_wp2_with (go_at_call 76; refine (k5 _).mono ?_; rintro e w6a ⟨rfl, hw6a⟩)
   have Sw6a : Below W0.heap.size W0 w6a := (Sw5a).trans (hw6a.mono (Sw5a).size)
   have bw6a : w6a.heap[W0.heap.size]? = some (.cells #[.int .i64 0, .int .i64 0, .int .i64 0, .int .i64 0, .int .i64 0, .int .i64 0, .int .i64 0] 150) := blk_on bw5a hw6a
   refine ⟨Sw6a, ?_⟩
   refine wpO 20 (fun K' hK' => ?_)
   go_wp2_with (go_at_call 77; refine (k6 _).mono ?_; rintro e w7a ⟨rfl, hw7a⟩)
   have Sw7a : Below W0.heap.size W0 w7a := (Sw6a).trans (hw7a.mono (Sw6a).size)
   have bw7a : w7a.heap[W0.heap.size]? = some (.cells #[.int .i64 0, .int .i64 0, .int .i64 0, .int .i64 0, .int .i64 0, .int .i64 0, .int .i64 0] 150) := blk_on bw6a hw7a
   refine ⟨Sw7a, ?_⟩
   refine wpTk (i := 21) (v := .agg #[.int .i64 e0, .int .i64 e1, .int .i64 e2, .int .i64 e3, .int .i64 e4, .int .i64 e5, .int .i64 e6]) Sw7a ?_
   simp only [nrm]
   have Sw7az : W0.heap.size ≤ W0.heap.size := hzG
   refine wpO 23 (fun K' hK' => ?_)
   refine wpSt 150 (.tmp 4) (.tmp 28) rfl W0.heap.size 0 #[.int .i64 e0, .int .i64 e1, .int .i64 e2, .int .i64 e3, .int .i64 e4, .int .i64 e5, .int .i64 e6] #[.int .i64 e0, .int .i64 e1, .int .i64 e2, .int .i64 e3, .int .i64 e4, .int .i64 e5, .int .i64 e6] rfl rfl 150 _ bw7a (fun w9 h9 ho9 => hK' _ _ ⟨?_, ?_⟩)
   ·exact (Sw7a).trans (ho9.below (Sw7az))
   ·refine wpAnyH_done (by kernel_rfl) ?_ _
    simp only [nrm]
    have HS9 : Hid (Below W0.heap.size W0 w9) := (Sw7a).trans (ho9.below (Sw7az))
    go_wp2_with (fail)
    go_meet
    case rel => exact ⟨_, rfl, h9, HS9.out⟩
 case rest =>
  obtain ⟨g, rfl, HG, HB⟩ := hcut
  obtain ⟨d0, d1, d2, d3, d4, d5, d6⟩ := range7 HG.out
  have HBw : Hid (Below w.heap.size w wc) := HW.out.trans (HB.out.mono HW.out.size)
  clear HR k0 k1 k2 k3 k4 k5 k6
  go_wp2_with (fail)
  clear d0 d1 d2 d3 d4 d5 d6
  go_loopw [30] (fun iv wr => ∃ k : Nat, k ≤ 7 ∧ iv = .int .i64 k ∧ Hid (zeroK [e0, e1, e2, e3, e4, e5, e6] k) ∧ wr = wc) (fun iv _ => 7 - (intOf iv).toNat)
  case atStart => exact ⟨0, Nat.zero_le _, rfl, fun j hj => by omega, rfl⟩
  case round =>
   obtain ⟨k, hk, rfl, hz, hwr⟩ := hrel
   subst hwr
   obtain rfl | rfl | rfl | rfl | rfl | rfl | rfl | rfl : k = 0 ∨ k = 1 ∨ k = 2 ∨ k = 3 ∨ k = 4 ∨ k = 5 ∨ k = 6 ∨ k = 7 := by omega
   ·by_cases h : e0 = 0
    ·have hz' : Hid (zeroK [e0, e1, e2, e3, e4, e5, e6] 1) := zeroK_succ hz.out (by rw [h]; rfl)
     have hix := idxE0 e0 e1 e2 e3 e4 e5 e6
     rw [h] at hix hz'
     rw [h]
     go_wp2_with (fail)
     go_roundw
     case rel => exact ⟨1, by omega, rfl, hz'.out, trivial⟩
     case measure => simp [intOf]
    ·have HF : Hid ((e0, 1) = V) := by show _ = _; rw [HE.out]; exact (firstE_here 1 hz.out (k := 0) rfl h).symm
     have hix := idxE0 e0 e1 e2 e3 e4 e5 e6
     go_wp2_with (fail)
     exact bodyPost_ret (v := .tuple #[.int .i64 e0, .int .i64 1]) (by simp [results, Tryz.results59, go_sem]) rfl ⟨ret_two HF.out, HBw.out⟩
   ·by_cases h : e1 = 0
    ·have hz' : Hid (zeroK [e0, e1, e2, e3, e4, e5, e6] 2) := zeroK_succ hz.out (by rw [h]; rfl)
     have hix := idxE1 e0 e1 e2 e3 e4 e5 e6
     rw [h] at hix hz'
     rw [h]
     go_wp2_with (fail)
     go_roundw
     case rel => exact ⟨2, by omega, rfl, hz'.out, trivial⟩
     case measure => simp [intOf]
    ·have HF : Hid ((e1, 2) = V) := by show _ = _; rw [HE.out]; exact (firstE_here 1 hz.out (k := 1) rfl h).symm
     have hix := idxE1 e0 e1 e2 e3 e4 e5 e6
     go_wp2_with (fail)
     exact bodyPost_ret (v := .tuple #[.int .i64 e1, .int .i64 2]) (by simp [results, Tryz.results59, go_sem]) rfl ⟨ret_two HF.out, HBw.out⟩
   ·by_cases h : e2 = 0
    ·have hz' : Hid (zeroK [e0, e1, e2, e3, e4, e5, e6] 3) := zeroK_succ hz.out (by rw [h]; rfl)
     have hix := idxE2 e0 e1 e2 e3 e4 e5 e6
     rw [h] at hix hz'
     rw [h]
     go_wp2_with (fail)
     go_roundw
     case rel => exact ⟨3, by omega, rfl, hz'.out, trivial⟩
     case measure => simp [intOf]
    ·have HF : Hid ((e2, 3) = V) := by show _ = _; rw [HE.out]; exact (firstE_here 1 hz.out (k := 2) rfl h).symm
     have hix := idxE2 e0 e1 e2 e3 e4 e5 e6
     go_wp2_with (fail)
     exact bodyPost_ret (v := .tuple #[.int .i64 e2, .int .i64 3]) (by simp [results, Tryz.results59, go_sem]) rfl ⟨ret_two HF.out, HBw.out⟩
   ·by_cases h : e3 = 0
    ·have hz' : Hid (zeroK [e0, e1, e2, e3, e4, e5, e6] 4) := zeroK_succ hz.out (by rw [h]; rfl)
     have hix := idxE3 e0 e1 e2 e3 e4 e5 e6
     rw [h] at hix hz'
     rw [h]
     go_wp2_with (fail)
     go_roundw
     case rel => exact ⟨4, by omega, rfl, hz'.out, trivial⟩
     case measure => simp [intOf]
    ·have HF : Hid ((e3, 4) = V) := by show _ = _; rw [HE.out]; exact (firstE_here 1 hz.out (k := 3) rfl h).symm
     have hix := idxE3 e0 e1 e2 e3 e4 e5 e6
     go_wp2_with (fail)
     exact bodyPost_ret (v := .tuple #[.int .i64 e3, .int .i64 4]) (by simp [results, Tryz.results59, go_sem]) rfl ⟨ret_two HF.out, HBw.out⟩
   ·by_cases h : e4 = 0
    ·have hz' : Hid (zeroK [e0, e1, e2, e3, e4, e5, e6] 5) := zeroK_succ hz.out (by rw [h]; rfl)
     have hix := idxE4 e0 e1 e2 e3 e4 e5 e6
     rw [h] at hix hz'
     rw [h]
     go_wp2_with (fail)
     go_roundw
     case rel => exact ⟨5, by omega, rfl, hz'.out, trivial⟩
     case measure => simp [intOf]
    ·have HF : Hid ((e4, 5) = V) := by show _ = _; rw [HE.out]; exact (firstE_here 1 hz.out (k := 4) rfl h).symm
     have hix := idxE4 e0 e1 e2 e3 e4 e5 e6
     go_wp2_with (fail)
     exact bodyPost_ret (v := .tuple #[.int .i64 e4, .int .i64 5]) (by simp [results, Tryz.results59, go_sem]) rfl ⟨ret_two HF.out, HBw.out⟩
   ·by_cases h : e5 = 0
    ·have hz' : Hid (zeroK [e0, e1, e2, e3, e4, e5, e6] 6) := zeroK_succ hz.out (by rw [h]; rfl)
     have hix := idxE5 e0 e1 e2 e3 e4 e5 e6
     rw [h] at hix hz'
     rw [h]
     go_wp2_with (fail)
     go_roundw
     case rel => exact ⟨6, by omega, rfl, hz'.out, trivial⟩
     case measure => simp [intOf]
    ·have HF : Hid ((e5, 6) = V) := by show _ = _; rw [HE.out]; exact (firstE_here 1 hz.out (k := 5) rfl h).symm
     have hix := idxE5 e0 e1 e2 e3 e4 e5 e6
     go_wp2_with (fail)
     exact bodyPost_ret (v := .tuple #[.int .i64 e5, .int .i64 6]) (by simp [results, Tryz.results59, go_sem]) rfl ⟨ret_two HF.out, HBw.out⟩
   ·by_cases h : e6 = 0
    ·have hz' : Hid (zeroK [e0, e1, e2, e3, e4, e5, e6] 7) := zeroK_succ hz.out (by rw [h]; rfl)
     have hix := idxE6 e0 e1 e2 e3 e4 e5 e6
     rw [h] at hix hz'
     rw [h]
     go_wp2_with (fail)
     go_roundw
     case rel => exact ⟨7, by omega, rfl, hz'.out, trivial⟩
     case measure => simp [intOf]
    ·have HF : Hid ((e6, 7) = V) := by show _ = _; rw [HE.out]; exact (firstE_here 1 hz.out (k := 6) rfl h).symm
     have hix := idxE6 e0 e1 e2 e3 e4 e5 e6
     go_wp2_with (fail)
     exact bodyPost_ret (v := .tuple #[.int .i64 e6, .int .i64 7]) (by simp [results, Tryz.results59, go_sem]) rfl ⟨ret_two HF.out, HBw.out⟩
   ·have HF : Hid ((0, 0) = V) := by show _ = _; rw [HE.out]; exact (firstE_none 1 hz.out).symm
    go_wp2_with (fail)
    exact bodyPost_ret (v := .tuple #[.int .i64 0, .int .i64 0]) (by simp [results, Tryz.results59, go_sem]) rfl ⟨ret_two HF.out, HBw.out⟩
end Go.Proofs.YtgokmkholjfhbaaGreat
