/-
  PkBE: TpNi TpMe, one behind the other (tools/pack.py).
-/
import Derived.Test.YtfpmljgmfapoiaaPkBB
import Derived.Test.YtfpmljgmfapoiaaPkAD
/-
  No engine: every call on it.
-/
namespace Go.Proofs.Ytfpmljgmfapoiaa
open Go.RowKit
set_option linter.unusedVariables false
set_option linter.unusedSimpArgs false

theorem insertEN (p : Int) (R : Ru) (w : World) : Calls Try.prog 15 #[.pointer none, .int .i64 p, .agg #[.int .i64 R.i, .int .u32 R.s, .int .i64 R.sl, .int .u32 R.d, .int .i64 R.dl, .int .u16 R.p.1, .int .u16 R.p.2, .int .u16 R.q.1, .int .u16 R.q.2, .int .u8 R.m.1, .int .u8 R.m.2, .int .i64 R.act]] w fun e w' => e = .returned (.int .i64 3) ∧ Below w.heap.size w w' := by
  go_enter Try.func15, Try.ntmps15
  go_wp2
  go_ret
  exact ⟨rfl, ((Below.refl _ _).alloc (Nat.le_refl _) _).alloc (by simp) _⟩
theorem deleteEN (x : Int) (w : World) : Calls Try.prog 16 #[.pointer none, .int .i64 x] w fun e w' => e = .returned (.int .i64 3) ∧ Below w.heap.size w w' := by
  go_enter Try.func16, Try.ntmps16
  go_wp2
  go_ret
  exact ⟨rfl, Below.refl _ _⟩
theorem setEN (w : World) : Calls Try.prog 13 #[.pointer none, .slice none 0 0] w fun e w' => e = .returned (.int .i64 3) ∧ Below w.heap.size w w' := by
  go_enter Try.func13, Try.ntmps13
  go_wp2
  go_ret
  exact ⟨rfl, (Below.refl _ _).alloc (Nat.le_refl _) _⟩
set_option maxHeartbeats 2000000 in
theorem askEN (h : Hd) (w : World) : Calls Try.prog 10 #[.pointer none, .agg #[.int .u32 h.s, .int .u32 h.d, .int .u16 h.p, .int .u16 h.q, .int .u8 h.r]] w fun e w' => e = .returned (.tuple #[.agg #[.bool false, .int .i64 0, .int .i64 0], .agg #[.int .i64 0, .int .i64 0, .int .i64 0, .int .i64 0, .int .i64 0]]) ∧ Below w.heap.size w w' := by
  obtain ⟨w0, hw0⟩ : ∃ w0, w0 = ((w.alloc (.cells #[.int .u32 h.s, .int .u32 h.d, .int .u16 h.p, .int .u16 h.q, .int .u8 h.r] 28)).alloc (.cells #[.bool false, .int .i64 0, .int .i64 0] 36)).alloc (.cells #[.int .i64 0, .int .i64 0, .int .i64 0, .int .i64 0, .int .i64 0] 38) := ⟨_, rfl⟩
  have HB0 : Hid (Below w.heap.size w w0) := by rw [hw0]; exact (((Below.refl _ _).alloc (Nat.le_refl _) _).alloc (by simp) _).alloc (by simp; omega) _
  have HV0 : Hid (w0.heap[w.heap.size + 1]? = some (.cells #[.bool false, .int .i64 0, .int .i64 0] 36 (0, 0))) := by
    have := blk_alloc (blk_new (w.alloc (.cells #[.int .u32 h.s, .int .u32 h.d, .int .u16 h.p, .int .u16 h.q, .int .u8 h.r] 28)) (.cells #[.bool false, .int .i64 0, .int .i64 0] 36)) (.cells #[.int .i64 0, .int .i64 0, .int .i64 0, .int .i64 0, .int .i64 0] 38)
    rw [← hw0] at this
    show _ = _
    simpa using this
  have HS0 : Hid (w0.heap[w.heap.size + 1 + 1]? = some (.cells #[.int .i64 0, .int .i64 0, .int .i64 0, .int .i64 0, .int .i64 0] 38 (0, 0))) := by
    have := blk_new ((w.alloc (.cells #[.int .u32 h.s, .int .u32 h.d, .int .u16 h.p, .int .u16 h.q, .int .u8 h.r] 28)).alloc (.cells #[.bool false, .int .i64 0, .int .i64 0] 36)) (.cells #[.int .i64 0, .int .i64 0, .int .i64 0, .int .i64 0, .int .i64 0] 38)
    rw [← hw0] at this
    show _ = _
    simpa using this
  have hw0s : ((w.alloc (.cells #[.int .u32 h.s, .int .u32 h.d, .int .u16 h.p, .int .u16 h.q, .int .u8 h.r] 28)).alloc (.cells #[.bool false, .int .i64 0, .int .i64 0] 36)).alloc (.cells #[.int .i64 0, .int .i64 0, .int .i64 0, .int .i64 0, .int .i64 0] 38) = w0 := hw0.symm
  clear hw0
  go_enter Try.func10, Try.ntmps10
  go_upto_region 2 with (fail)
  try simp only [hw0s, World.size_alloc]
  clear hw0s
  go_wp2_with (first | (refine wpList_store_blk rfl 36 (.tmp 4) (.tmp 14) rfl (w.heap.size + 1) 0 #[.bool false, .int .i64 0, .int .i64 0] #[.bool false, .int .i64 0, .int .i64 0] rfl rfl 36 _ HV0.out (Nat.le_of_ble_eq_true rfl) rfl (by kernel_rfl) rfl ?_; intro w8 hw8 how8; have HS8 : Hid (w8.heap[w.heap.size + 1 + 1]? = some (.cells #[.int .i64 0, .int .i64 0, .int .i64 0, .int .i64 0, .int .i64 0] 38 (0, 0))) := (how8.block _ (by omega)).trans HS0.out) | (refine wpList_store_blk rfl 38 (.tmp 5) (.tmp 15) rfl (w.heap.size + 1 + 1) 0 #[.int .i64 0, .int .i64 0, .int .i64 0, .int .i64 0, .int .i64 0] #[.int .i64 0, .int .i64 0, .int .i64 0, .int .i64 0, .int .i64 0] rfl rfl 38 _ HS8.out (Nat.le_of_ble_eq_true rfl) rfl (by kernel_rfl) rfl ?_; intro w9 hw9 how9))
  refine bodyPost_ret (results_blks Try.results10 rfl rfl ((how9.block (w.heap.size + 1) (by omega)).trans hw8) Try.underlying36 rfl (by kernel_rfl) hw9 Try.underlying38 rfl (by kernel_rfl)) rfl ?_
  exact ⟨rfl, (HB0.out.trans (how8.below (by omega))).trans (how9.below (by omega))⟩
theorem statsEN (w : World) : Calls Try.prog 12 #[.pointer none] w fun e w' => e = .returned (.agg #[.int .i64 0, .int .i64 0, .int .i64 0, .int .i64 0]) ∧ Below w.heap.size w w' := by
  have h0 : (w.alloc (.cells #[.int .i64 0, .int .i64 0, .int .i64 0, .int .i64 0] 43)).heap[w.heap.size]? = some (.cells #[.int .i64 0, .int .i64 0, .int .i64 0, .int .i64 0] 43 (0, 0)) := blk_new w _
  have HB0 : Hid (Below w.heap.size w (w.alloc (.cells #[.int .i64 0, .int .i64 0, .int .i64 0, .int .i64 0] 43))) := (Below.refl _ _).alloc (Nat.le_refl _) _
  go_enter Try.func12, Try.ntmps12
  go_wp2_with (refine wpList_store_blk rfl 43 (.tmp 2) (.tmp 8) rfl w.heap.size 0 #[.int .i64 0, .int .i64 0, .int .i64 0, .int .i64 0] #[.int .i64 0, .int .i64 0, .int .i64 0, .int .i64 0] rfl rfl 43 _ h0 (Nat.le_of_ble_eq_true rfl) rfl (by kernel_rfl) rfl ?_; intro w8 hw8 how8)
  exact bodyPost_ret (results_blk Try.results12 rfl hw8 Try.underlying43 rfl (by kernel_rfl)) rfl ⟨rfl, HB0.out.trans (how8.below (Nat.le_refl _))⟩
end Go.Proofs.Ytfpmljgmfapoiaa
/-
  quintetkeep.None: calls through an interface.
-/
namespace Go.Proofs.Ytfpmljgmfapoiaa
open Go.RowKit
set_option linter.unusedVariables false
set_option linter.unusedSimpArgs false

theorem meth_Insert (p : Option Addr) (w : World) : (method 304 31 (.pointer p) "Insert").run Try.prog w = .ok (15, .pointer p) w := by kernel_rfl
theorem meth_Delete (p : Option Addr) (w : World) : (method 304 31 (.pointer p) "Delete").run Try.prog w = .ok (16, .pointer p) w := by kernel_rfl
theorem meth_Set (p : Option Addr) (w : World) : (method 304 31 (.pointer p) "Set").run Try.prog w = .ok (13, .pointer p) w := by kernel_rfl
theorem meth_Ask (p : Option Addr) (w : World) : (method 304 31 (.pointer p) "Ask").run Try.prog w = .ok (10, .pointer p) w := by kernel_rfl
theorem meth_Stats (p : Option Addr) (w : World) : (method 304 31 (.pointer p) "Stats").run Try.prog w = .ok (12, .pointer p) w := by kernel_rfl
set_option maxHeartbeats 4000000 in
set_option maxRecDepth 20000 in
theorem noneC (R : Ru) (h : Hd) (w : World) : Calls Try.prog 18 #[.iface 31 (.pointer none), .agg #[.int .i64 R.i, .int .u32 R.s, .int .i64 R.sl, .int .u32 R.d, .int .i64 R.dl, .int .u16 R.p.1, .int .u16 R.p.2, .int .u16 R.q.1, .int .u16 R.q.2, .int .u8 R.m.1, .int .u8 R.m.2, .int .i64 R.act], .agg #[.int .u32 h.s, .int .u32 h.d, .int .u16 h.p, .int .u16 h.q, .int .u8 h.r]] w fun e w' => e = .returned (.bool true) ∧ Below w.heap.size w w' := by
  have m1 := meth_Insert none
  have m2 := meth_Delete none
  have m3 := meth_Set none
  have m4 := meth_Ask none
  have m5 := meth_Stats none
  go_enter Try.func18, Try.ntmps18
  go_upto_region 1 with (fail)
  have HR0 : Hid (((w.alloc (.cells #[.int .i64 R.i, .int .u32 R.s, .int .i64 R.sl, .int .u32 R.d, .int .i64 R.dl, .int .u16 R.p.1, .int .u16 R.p.2, .int .u16 R.q.1, .int .u16 R.q.2, .int .u8 R.m.1, .int .u8 R.m.2, .int .i64 R.act] 60)).alloc (.cells #[.int .u32 h.s, .int .u32 h.d, .int .u16 h.p, .int .u16 h.q, .int .u8 h.r] 28)).heap[w.heap.size]? = some (.cells #[.int .i64 R.i, .int .u32 R.s, .int .i64 R.sl, .int .u32 R.d, .int .i64 R.dl, .int .u16 R.p.1, .int .u16 R.p.2, .int .u16 R.q.1, .int .u16 R.q.2, .int .u8 R.m.1, .int .u8 R.m.2, .int .i64 R.act] 60 (0, 0))) := blk_alloc (blk_new w _) _
  have HH0 : Hid (((w.alloc (.cells #[.int .i64 R.i, .int .u32 R.s, .int .i64 R.sl, .int .u32 R.d, .int .i64 R.dl, .int .u16 R.p.1, .int .u16 R.p.2, .int .u16 R.q.1, .int .u16 R.q.2, .int .u8 R.m.1, .int .u8 R.m.2, .int .i64 R.act] 60)).alloc (.cells #[.int .u32 h.s, .int .u32 h.d, .int .u16 h.p, .int .u16 h.q, .int .u8 h.r] 28)).heap[w.heap.size + 1]? = some (.cells #[.int .u32 h.s, .int .u32 h.d, .int .u16 h.p, .int .u16 h.q, .int .u8 h.r] 28 (0, 0))) := by
    have := blk_new (w.alloc (.cells #[.int .i64 R.i, .int .u32 R.s, .int .i64 R.sl, .int .u32 R.d, .int .i64 R.dl, .int .u16 R.p.1, .int .u16 R.p.2, .int .u16 R.q.1, .int .u16 R.q.2, .int .u8 R.m.1, .int .u8 R.m.2, .int .i64 R.act] 60)) (.cells #[.int .u32 h.s, .int .u32 h.d, .int .u16 h.p, .int .u16 h.q, .int .u8 h.r] 28)
    show _ = _
    simpa using this
  have HB0 : Hid (Below w.heap.size w ((w.alloc (.cells #[.int .i64 R.i, .int .u32 R.s, .int .i64 R.sl, .int .u32 R.d, .int .i64 R.dl, .int .u16 R.p.1, .int .u16 R.p.2, .int .u16 R.q.1, .int .u16 R.q.2, .int .u8 R.m.1, .int .u8 R.m.2, .int .i64 R.act] 60)).alloc (.cells #[.int .u32 h.s, .int .u32 h.d, .int .u16 h.p, .int .u16 h.q, .int .u8 h.r] 28))) := ((Below.refl _ _).alloc (Nat.le_refl _) _).alloc (by simp) _
  try simp only [World.size_alloc]
  generalize (w.alloc (.cells #[.int .i64 R.i, .int .u32 R.s, .int .i64 R.sl, .int .u32 R.d, .int .i64 R.dl, .int .u16 R.p.1, .int .u16 R.p.2, .int .u16 R.q.1, .int .u16 R.q.2, .int .u8 R.m.1, .int .u8 R.m.2, .int .i64 R.act] 60)).alloc (.cells #[.int .u32 h.s, .int .u32 h.d, .int .u16 h.p, .int .u16 h.q, .int .u8 h.r] 28) = w0 at *
  obtain ⟨y0, y1, y2, y3, y4, y5, y6, y7, y8, y9, y10, y11⟩ := blk12 HR0.out
  go_wp2_with (go_at_call 15; fail)
  refine (insertEN 0 R _).mono ?_
  rintro e w1 ⟨rfl, hb⟩
  have HB1 : Hid (Below w.heap.size w w1) := HB0.out.trans (hb.mono HB0.out.size)
  have HR1 : Hid _ := blk_on HR0.out hb
  have HH1 : Hid _ := blk_on HH0.out hb
  clear hb HB0 HR0 HH0 y0 y1 y2 y3 y4 y5 y6 y7 y8 y9 y10 y11
  clear w0
  have z0 : w1.cell? ⟨w.heap.size, 0, none⟩ = some (.int .i64 R.i) := blk_cell HR1.out rfl
  go_wp2_with (go_at_call 16; fail)
  refine (deleteEN R.i _).mono ?_
  rintro e w2 ⟨rfl, hb⟩
  have HB2 : Hid (Below w.heap.size w w2) := HB1.out.trans (hb.mono HB1.out.size)
  have HH2 : Hid _ := blk_on HH1.out hb
  clear hb HB1 HR1 HH1 z0
  clear w1
  go_wp2_with (go_at_call 13; fail)
  refine (setEN _).mono ?_
  rintro e w3 ⟨rfl, hb⟩
  have HB3 : Hid (Below w.heap.size w w3) := HB2.out.trans (hb.mono HB2.out.size)
  have HH3 : Hid _ := blk_on HH2.out hb
  clear hb HB2 HH2
  clear w2
  obtain ⟨z0, z1, z2, z3, z4⟩ := blk5 HH3.out
  go_wp2_with (go_at_call 10; fail)
  refine (askEN h _).mono ?_
  rintro e w4 ⟨rfl, hb⟩
  have HB4 : Hid (Below w.heap.size w w4) := HB3.out.trans (hb.mono HB3.out.size)
  clear hb HB3 HH3 z0 z1 z2 z3 z4
  clear w3
  have HB5 : Hid (Below w.heap.size w ((w4.alloc (.cells #[.bool false, .int .i64 0, .int .i64 0] 36)).alloc (.cells #[.int .i64 0, .int .i64 0, .int .i64 0, .int .i64 0, .int .i64 0] 38))) := (HB4.out.alloc HB4.out.size _).alloc (by have := HB4.out.size; simp; omega) _
  obtain ⟨a0, a1, a2⟩ := blk3 (blk_alloc (blk_new w4 (.cells #[.bool false, .int .i64 0, .int .i64 0] 36)) (.cells #[.int .i64 0, .int .i64 0, .int .i64 0, .int .i64 0, .int .i64 0] 38))
  obtain ⟨c0, c1, c2, c3, c4⟩ := blk5 (blk_new (w4.alloc (.cells #[.bool false, .int .i64 0, .int .i64 0] 36)) (.cells #[.int .i64 0, .int .i64 0, .int .i64 0, .int .i64 0, .int .i64 0] 38))
  simp only [World.size_alloc] at c0 c1 c2 c3 c4
  go_upto_region 5 with (fail)
  try simp only [World.size_alloc]
  generalize (w4.alloc (.cells #[.bool false, .int .i64 0, .int .i64 0] 36)).alloc (.cells #[.int .i64 0, .int .i64 0, .int .i64 0, .int .i64 0, .int .i64 0] 38) = w5 at *
  go_wp2_with (go_at_call 12; refine (statsEN _).mono ?_; rintro e w6 ⟨rfl, hb6⟩)
  go_ret
  exact ⟨rfl, HB5.out.trans (Below.mono (by assumption) HB5.out.size)⟩
end Go.Proofs.Ytfpmljgmfapoiaa
