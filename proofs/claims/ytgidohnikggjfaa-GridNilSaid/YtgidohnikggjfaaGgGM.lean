/-
  GgGM: GvN GvM, one behind the other (tools/merge.py).
-/
import Derived.Test.YtgidohnikggjfaaGgGW
/-
  No engine: every call on it.
-/
namespace Go.Proofs.Ytgidohnikggjfaa
open Go.RowKit
set_option linter.unusedVariables false
set_option linter.unusedSimpArgs false

theorem insertEN (p : Int) (R : Ru) (w : World) : Calls Try.prog 10 #[.pointer none, .int .i64 p, .agg #[.int .i64 R.i, .int .u32 (R.s : Int), .int .i64 R.sl, .int .u32 (R.d : Int), .int .i64 R.dl, .int .u16 (R.p.1 : Int), .int .u16 (R.p.2 : Int), .int .u16 (R.q.1 : Int), .int .u16 (R.q.2 : Int), .int .u8 (R.m.1 : Int), .int .u8 (R.m.2 : Int), .int .i64 R.act]] w fun e w' => e = .returned (.int .i64 3) ∧ Below w.heap.size w w' := by
  go_enter Try.func10, Try.ntmps10
  go_wp2
  go_ret
  exact ⟨rfl, (Below.refl _ _).alloc (Nat.le_refl _) _⟩
theorem deleteEN (x : Int) (w : World) : Calls Try.prog 11 #[.pointer none, .int .i64 x] w fun e w' => e = .returned (.int .i64 3) ∧ Below w.heap.size w w' := by
  go_enter Try.func11, Try.ntmps11
  go_wp2
  go_ret
  exact ⟨rfl, Below.refl _ _⟩
theorem setEN (w : World) : Calls Try.prog 7 #[.pointer none, .slice none 0 0] w fun e w' => e = .returned (.int .i64 3) ∧ Below w.heap.size w w' := by
  go_enter Try.func7, Try.ntmps7
  go_wp2
  go_ret
  exact ⟨rfl, Below.refl _ _⟩
set_option maxHeartbeats 2000000 in
theorem askEN (h : Hd) (w : World) : Calls Try.prog 12 #[.pointer none, .agg #[.int .u32 (h.s : Int), .int .u32 (h.d : Int), .int .u16 (h.p : Int), .int .u16 (h.q : Int), .int .u8 (h.r : Int)]] w fun e w' => e = .returned (.tuple #[.agg #[.bool false, .int .i64 0, .int .i64 0], .agg #[.int .i64 0, .int .i64 0, .int .i64 0, .int .i64 0, .int .i64 0]]) ∧ Below w.heap.size w w' := by
  obtain ⟨w0, hw0⟩ : ∃ w0, w0 = ((w.alloc (.cells #[.int .u32 (h.s : Int), .int .u32 (h.d : Int), .int .u16 (h.p : Int), .int .u16 (h.q : Int), .int .u8 (h.r : Int)] 55)).alloc (.cells #[.bool false, .int .i64 0, .int .i64 0] 49)).alloc (.cells #[.int .i64 0, .int .i64 0, .int .i64 0, .int .i64 0, .int .i64 0] 51) := ⟨_, rfl⟩
  have HB0 : Hid (Below w.heap.size w w0) := by rw [hw0]; exact (((Below.refl _ _).alloc (Nat.le_refl _) _).alloc (by simp) _).alloc (by simp; omega) _
  have HV0 : Hid (w0.heap[w.heap.size + 1]? = some (.cells #[.bool false, .int .i64 0, .int .i64 0] 49 (0, 0))) := by
    have := blk_alloc (blk_new (w.alloc (.cells #[.int .u32 (h.s : Int), .int .u32 (h.d : Int), .int .u16 (h.p : Int), .int .u16 (h.q : Int), .int .u8 (h.r : Int)] 55)) (.cells #[.bool false, .int .i64 0, .int .i64 0] 49)) (.cells #[.int .i64 0, .int .i64 0, .int .i64 0, .int .i64 0, .int .i64 0] 51)
    rw [← hw0] at this
    show _ = _
    simpa using this
  have HS0 : Hid (w0.heap[w.heap.size + 1 + 1]? = some (.cells #[.int .i64 0, .int .i64 0, .int .i64 0, .int .i64 0, .int .i64 0] 51 (0, 0))) := by
    have := blk_new ((w.alloc (.cells #[.int .u32 (h.s : Int), .int .u32 (h.d : Int), .int .u16 (h.p : Int), .int .u16 (h.q : Int), .int .u8 (h.r : Int)] 55)).alloc (.cells #[.bool false, .int .i64 0, .int .i64 0] 49)) (.cells #[.int .i64 0, .int .i64 0, .int .i64 0, .int .i64 0, .int .i64 0] 51)
    rw [← hw0] at this
    show _ = _
    simpa using this
  have hw0s : ((w.alloc (.cells #[.int .u32 (h.s : Int), .int .u32 (h.d : Int), .int .u16 (h.p : Int), .int .u16 (h.q : Int), .int .u8 (h.r : Int)] 55)).alloc (.cells #[.bool false, .int .i64 0, .int .i64 0] 49)).alloc (.cells #[.int .i64 0, .int .i64 0, .int .i64 0, .int .i64 0, .int .i64 0] 51) = w0 := hw0.symm
  clear hw0
  go_enter Try.func12, Try.ntmps12
  go_upto_region 2 with (fail)
  try simp only [hw0s, World.size_alloc]
  clear hw0s
  go_wp2_with (first | (refine wpList_store_blk rfl 49 (.tmp 4) (.tmp 12) rfl (w.heap.size + 1) 0 #[.bool false, .int .i64 0, .int .i64 0] #[.bool false, .int .i64 0, .int .i64 0] rfl rfl 49 _ HV0.out (Nat.le_of_ble_eq_true rfl) rfl (by kernel_rfl) rfl ?_; intro w8 hw8 how8; have HS8 : Hid (w8.heap[w.heap.size + 1 + 1]? = some (.cells #[.int .i64 0, .int .i64 0, .int .i64 0, .int .i64 0, .int .i64 0] 51 (0, 0))) := (how8.block _ (by omega)).trans HS0.out) | (refine wpList_store_blk rfl 51 (.tmp 5) (.tmp 13) rfl (w.heap.size + 1 + 1) 0 #[.int .i64 0, .int .i64 0, .int .i64 0, .int .i64 0, .int .i64 0] #[.int .i64 0, .int .i64 0, .int .i64 0, .int .i64 0, .int .i64 0] rfl rfl 51 _ HS8.out (Nat.le_of_ble_eq_true rfl) rfl (by kernel_rfl) rfl ?_; intro w9 hw9 how9))
  refine bodyPost_ret (results_rows2 Try.results12 rfl rfl ((how9.block (w.heap.size + 1) (by omega)).trans hw8) Try.underlying49 rfl (by kernel_rfl) hw9 Try.underlying51 rfl (by kernel_rfl)) rfl ?_
  exact ⟨rfl, (HB0.out.trans (how8.below (by omega))).trans (how9.below (by omega))⟩
theorem statsEN (w : World) : Calls Try.prog 14 #[.pointer none] w fun e w' => e = .returned (.agg #[.int .i64 0, .int .i64 0, .int .i64 0, .int .i64 0]) ∧ Below w.heap.size w w' := by
  have h0 : (w.alloc (.cells #[.int .i64 0, .int .i64 0, .int .i64 0, .int .i64 0] 59)).heap[w.heap.size]? = some (.cells #[.int .i64 0, .int .i64 0, .int .i64 0, .int .i64 0] 59 (0, 0)) := blk_new w _
  have HB0 : Hid (Below w.heap.size w (w.alloc (.cells #[.int .i64 0, .int .i64 0, .int .i64 0, .int .i64 0] 59))) := (Below.refl _ _).alloc (Nat.le_refl _) _
  go_enter Try.func14, Try.ntmps14
  go_wp2_with (refine wpList_store_blk rfl 59 (.tmp 2) (.tmp 5) rfl w.heap.size 0 #[.int .i64 0, .int .i64 0, .int .i64 0, .int .i64 0] #[.int .i64 0, .int .i64 0, .int .i64 0, .int .i64 0] rfl rfl 59 _ h0 (Nat.le_of_ble_eq_true rfl) rfl (by kernel_rfl) rfl ?_; intro w8 hw8 how8)
  exact bodyPost_ret (results_blk Try.results14 rfl hw8 Try.underlying59 rfl (by kernel_rfl)) rfl ⟨rfl, HB0.out.trans (how8.below (Nat.le_refl _))⟩
end Go.Proofs.Ytgidohnikggjfaa
/-
  quintetkeep.None: calls through an interface.
-/
namespace Go.Proofs.Ytgidohnikggjfaa
open Go.RowKit
set_option linter.unusedVariables false
set_option linter.unusedSimpArgs false

theorem meth_Insert (p : Option Addr) (w : World) : (method 281 28 (.pointer p) "Insert").run Try.prog w = .ok (10, .pointer p) w := by kernel_rfl
theorem meth_Delete (p : Option Addr) (w : World) : (method 281 28 (.pointer p) "Delete").run Try.prog w = .ok (11, .pointer p) w := by kernel_rfl
theorem meth_Set (p : Option Addr) (w : World) : (method 281 28 (.pointer p) "Set").run Try.prog w = .ok (7, .pointer p) w := by kernel_rfl
theorem meth_Ask (p : Option Addr) (w : World) : (method 281 28 (.pointer p) "Ask").run Try.prog w = .ok (12, .pointer p) w := by kernel_rfl
theorem meth_Stats (p : Option Addr) (w : World) : (method 281 28 (.pointer p) "Stats").run Try.prog w = .ok (14, .pointer p) w := by kernel_rfl
set_option maxHeartbeats 4000000 in
set_option maxRecDepth 20000 in
theorem noneC (R : Ru) (h : Hd) (w : World) : Calls Try.prog 15 #[.iface 28 (.pointer none), .agg #[.int .i64 R.i, .int .u32 (R.s : Int), .int .i64 R.sl, .int .u32 (R.d : Int), .int .i64 R.dl, .int .u16 (R.p.1 : Int), .int .u16 (R.p.2 : Int), .int .u16 (R.q.1 : Int), .int .u16 (R.q.2 : Int), .int .u8 (R.m.1 : Int), .int .u8 (R.m.2 : Int), .int .i64 R.act], .agg #[.int .u32 (h.s : Int), .int .u32 (h.d : Int), .int .u16 (h.p : Int), .int .u16 (h.q : Int), .int .u8 (h.r : Int)]] w fun e w' => e = .returned (.bool true) ∧ Below w.heap.size w w' := by
  have m1 := meth_Insert none
  have m2 := meth_Delete none
  have m3 := meth_Set none
  have m4 := meth_Ask none
  have m5 := meth_Stats none
  go_enter Try.func15, Try.ntmps15
  go_upto_region 1 with (fail)
  have HR0 : Hid (((w.alloc (.cells #[.int .i64 R.i, .int .u32 (R.s : Int), .int .i64 R.sl, .int .u32 (R.d : Int), .int .i64 R.dl, .int .u16 (R.p.1 : Int), .int .u16 (R.p.2 : Int), .int .u16 (R.q.1 : Int), .int .u16 (R.q.2 : Int), .int .u8 (R.m.1 : Int), .int .u8 (R.m.2 : Int), .int .i64 R.act] 46)).alloc (.cells #[.int .u32 (h.s : Int), .int .u32 (h.d : Int), .int .u16 (h.p : Int), .int .u16 (h.q : Int), .int .u8 (h.r : Int)] 55)).heap[w.heap.size]? = some (.cells #[.int .i64 R.i, .int .u32 (R.s : Int), .int .i64 R.sl, .int .u32 (R.d : Int), .int .i64 R.dl, .int .u16 (R.p.1 : Int), .int .u16 (R.p.2 : Int), .int .u16 (R.q.1 : Int), .int .u16 (R.q.2 : Int), .int .u8 (R.m.1 : Int), .int .u8 (R.m.2 : Int), .int .i64 R.act] 46 (0, 0))) := blk_alloc (blk_new w _) _
  have HH0 : Hid (((w.alloc (.cells #[.int .i64 R.i, .int .u32 (R.s : Int), .int .i64 R.sl, .int .u32 (R.d : Int), .int .i64 R.dl, .int .u16 (R.p.1 : Int), .int .u16 (R.p.2 : Int), .int .u16 (R.q.1 : Int), .int .u16 (R.q.2 : Int), .int .u8 (R.m.1 : Int), .int .u8 (R.m.2 : Int), .int .i64 R.act] 46)).alloc (.cells #[.int .u32 (h.s : Int), .int .u32 (h.d : Int), .int .u16 (h.p : Int), .int .u16 (h.q : Int), .int .u8 (h.r : Int)] 55)).heap[w.heap.size + 1]? = some (.cells #[.int .u32 (h.s : Int), .int .u32 (h.d : Int), .int .u16 (h.p : Int), .int .u16 (h.q : Int), .int .u8 (h.r : Int)] 55 (0, 0))) := by
    have := blk_new (w.alloc (.cells #[.int .i64 R.i, .int .u32 (R.s : Int), .int .i64 R.sl, .int .u32 (R.d : Int), .int .i64 R.dl, .int .u16 (R.p.1 : Int), .int .u16 (R.p.2 : Int), .int .u16 (R.q.1 : Int), .int .u16 (R.q.2 : Int), .int .u8 (R.m.1 : Int), .int .u8 (R.m.2 : Int), .int .i64 R.act] 46)) (.cells #[.int .u32 (h.s : Int), .int .u32 (h.d : Int), .int .u16 (h.p : Int), .int .u16 (h.q : Int), .int .u8 (h.r : Int)] 55)
    show _ = _
    simpa using this
  have HB0 : Hid (Below w.heap.size w ((w.alloc (.cells #[.int .i64 R.i, .int .u32 (R.s : Int), .int .i64 R.sl, .int .u32 (R.d : Int), .int .i64 R.dl, .int .u16 (R.p.1 : Int), .int .u16 (R.p.2 : Int), .int .u16 (R.q.1 : Int), .int .u16 (R.q.2 : Int), .int .u8 (R.m.1 : Int), .int .u8 (R.m.2 : Int), .int .i64 R.act] 46)).alloc (.cells #[.int .u32 (h.s : Int), .int .u32 (h.d : Int), .int .u16 (h.p : Int), .int .u16 (h.q : Int), .int .u8 (h.r : Int)] 55))) := ((Below.refl _ _).alloc (Nat.le_refl _) _).alloc (by simp) _
  try simp only [World.size_alloc]
  generalize (w.alloc (.cells #[.int .i64 R.i, .int .u32 (R.s : Int), .int .i64 R.sl, .int .u32 (R.d : Int), .int .i64 R.dl, .int .u16 (R.p.1 : Int), .int .u16 (R.p.2 : Int), .int .u16 (R.q.1 : Int), .int .u16 (R.q.2 : Int), .int .u8 (R.m.1 : Int), .int .u8 (R.m.2 : Int), .int .i64 R.act] 46)).alloc (.cells #[.int .u32 (h.s : Int), .int .u32 (h.d : Int), .int .u16 (h.p : Int), .int .u16 (h.q : Int), .int .u8 (h.r : Int)] 55) = w0 at *
  obtain ⟨y0, y1, y2, y3, y4, y5, y6, y7, y8, y9, y10, y11⟩ := blk12 HR0.out
  go_wp2_with (go_at_call 10; fail)
  refine (insertEN 0 R _).mono ?_
  rintro e w1 ⟨rfl, hb⟩
  have HB1 : Hid (Below w.heap.size w w1) := HB0.out.trans (hb.mono HB0.out.size)
  have HR1 : Hid _ := blk_on HR0.out hb
  have HH1 : Hid _ := blk_on HH0.out hb
  clear hb HB0 HR0 HH0 y0 y1 y2 y3 y4 y5 y6 y7 y8 y9 y10 y11
  clear w0
  have z0 : w1.cell? ⟨w.heap.size, 0, none⟩ = some (.int .i64 R.i) := blk_cell HR1.out rfl
  go_wp2_with (go_at_call 11; fail)
  refine (deleteEN R.i _).mono ?_
  rintro e w2 ⟨rfl, hb⟩
  have HB2 : Hid (Below w.heap.size w w2) := HB1.out.trans (hb.mono HB1.out.size)
  have HH2 : Hid _ := blk_on HH1.out hb
  clear hb HB1 HR1 HH1 z0
  clear w1
  go_wp2_with (go_at_call 7; fail)
  refine (setEN _).mono ?_
  rintro e w3 ⟨rfl, hb⟩
  have HB3 : Hid (Below w.heap.size w w3) := HB2.out.trans (hb.mono HB2.out.size)
  have HH3 : Hid _ := blk_on HH2.out hb
  clear hb HB2 HH2
  clear w2
  obtain ⟨z0, z1, z2, z3, z4⟩ := blk5 HH3.out
  go_wp2_with (go_at_call 12; fail)
  refine (askEN h _).mono ?_
  rintro e w4 ⟨rfl, hb⟩
  have HB4 : Hid (Below w.heap.size w w4) := HB3.out.trans (hb.mono HB3.out.size)
  clear hb HB3 HH3 z0 z1 z2 z3 z4
  clear w3
  have HB5 : Hid (Below w.heap.size w ((w4.alloc (.cells #[.bool false, .int .i64 0, .int .i64 0] 49)).alloc (.cells #[.int .i64 0, .int .i64 0, .int .i64 0, .int .i64 0, .int .i64 0] 51))) := (HB4.out.alloc HB4.out.size _).alloc (by have := HB4.out.size; simp; omega) _
  obtain ⟨a0, a1, a2⟩ := blk3 (blk_alloc (blk_new w4 (.cells #[.bool false, .int .i64 0, .int .i64 0] 49)) (.cells #[.int .i64 0, .int .i64 0, .int .i64 0, .int .i64 0, .int .i64 0] 51))
  obtain ⟨c0, c1, c2, c3, c4⟩ := blk5 (blk_new (w4.alloc (.cells #[.bool false, .int .i64 0, .int .i64 0] 49)) (.cells #[.int .i64 0, .int .i64 0, .int .i64 0, .int .i64 0, .int .i64 0] 51))
  simp only [World.size_alloc] at c0 c1 c2 c3 c4
  go_upto_region 5 with (fail)
  try simp only [World.size_alloc]
  generalize (w4.alloc (.cells #[.bool false, .int .i64 0, .int .i64 0] 49)).alloc (.cells #[.int .i64 0, .int .i64 0, .int .i64 0, .int .i64 0, .int .i64 0] 51) = w5 at *
  go_wp2_with (go_at_call 14; refine (statsEN _).mono ?_; rintro e w6 ⟨rfl, hb6⟩)
  go_ret
  exact ⟨rfl, HB5.out.trans (Below.mono (by assumption) HB5.out.size)⟩
end Go.Proofs.Ytgidohnikggjfaa
