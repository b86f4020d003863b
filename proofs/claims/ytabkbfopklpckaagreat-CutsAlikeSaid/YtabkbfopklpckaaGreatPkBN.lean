/-
  PkBN: TbJ, one behind the other (tools/pack.py).
-/
import Derived.Test.YtabkbfopklpckaaGreatPkBL
import Derived.Test.YtabkbfopklpckaaGreatPkAE
set_option linter.unusedVariables false
set_option linter.unusedSimpArgs false
namespace Go.Proofs.YtabkbfopklpckaaGreat
open Go.RowKit
set_option maxRecDepth 20000 in
set_option maxHeartbeats 8000000 in
theorem insertJ (t : Nat) (v : Value) (M A : Int) (l : List Ru) (p : Int) (R : Ru) (w : World) (h : Tab w t v M A l) (hl : l.length ≤ 200000) (b : BdR R) (hJ0 : joinE l R ≠ 0) :
  Calls Tryz.prog 42 #[.pointer (some ⟨t, 0, none⟩), .int .i64 p, .agg #[.int .i64 R.i, .int .u32 R.s, .int .i64 R.sl, .int .u32 R.d, .int .i64 R.dl, .int .u16 R.p.1, .int .u16 R.p.2, .int .u16 R.q.1, .int .u16 R.q.2, .int .u8 R.m.1, .int .u8 R.m.2, .int .i64 R.act]] w fun e w' => e = .returned (.int .i64 (joinE l R)) ∧ Below w.heap.size w w' := by
 have HT0 : Hid (Tab (w.alloc (.cells #[.int .i64 R.i, .int .u32 R.s, .int .i64 R.sl, .int .u32 R.d, .int .i64 R.dl, .int .u16 R.p.1, .int .u16 R.p.2, .int .u16 R.q.1, .int .u16 R.q.2, .int .u8 R.m.1, .int .u8 R.m.2, .int .i64 R.act] 64)) t v M A l) := h.on ((Below.refl _ _).alloc (Nat.le_refl _) _)
 have HB0 : Hid (Below w.heap.size w (w.alloc (.cells #[.int .i64 R.i, .int .u32 R.s, .int .i64 R.sl, .int .u32 R.d, .int .i64 R.dl, .int .u16 R.p.1, .int .u16 R.p.2, .int .u16 R.q.1, .int .u16 R.q.2, .int .u8 R.m.1, .int .u8 R.m.2, .int .i64 R.act] 64))) := (Below.refl _ _).alloc (Nat.le_refl _) _
 have HR0 := blk_new w (.cells #[.int .i64 R.i, .int .u32 R.s, .int .i64 R.sl, .int .u32 R.d, .int .i64 R.dl, .int .u16 R.p.1, .int .u16 R.p.2, .int .u16 R.q.1, .int .u16 R.q.2, .int .u8 R.m.1, .int .u8 R.m.2, .int .i64 R.act] 64)
 have hlt := h.lt
 have hne : ¬ t = w.heap.size := by omega
 obtain ⟨E, hE⟩ : ∃ E, E = joinE l R := ⟨_, rfl⟩
 rw [← hE] at hJ0 ⊢
 have hJ : ∀ W, Below (w.alloc (.cells #[.int .i64 R.i, .int .u32 R.s, .int .i64 R.sl, .int .u32 R.d, .int .i64 R.dl, .int .u16 R.p.1, .int .u16 R.p.2, .int .u16 R.q.1, .int .u16 R.q.2, .int .u8 R.m.1, .int .u8 R.m.2, .int .i64 R.act] 64)).heap.size (w.alloc (.cells #[.int .i64 R.i, .int .u32 R.s, .int .i64 R.sl, .int .u32 R.d, .int .i64 R.dl, .int .u16 R.p.1, .int .u16 R.p.2, .int .u16 R.q.1, .int .u16 R.q.2, .int .u8 R.m.1, .int .u8 R.m.2, .int .i64 R.act] 64)) W → Calls Tryz.prog 55 #[v, .agg #[.int .i64 R.i, .int .u32 R.s, .int .i64 R.sl, .int .u32 R.d, .int .i64 R.dl, .int .u16 R.p.1, .int .u16 R.p.2, .int .u16 R.q.1, .int .u16 R.q.2, .int .u8 R.m.1, .int .u8 R.m.2, .int .i64 R.act]] W fun e w' => e = .returned (.int .i64 E) ∧ Below W.heap.size W w' := fun W hb => by
  have := mayJoinC v l R W b (HT0.out.2.1.src.keep hb) hl
  rw [← hE] at this
  exact this
 obtain ⟨ad, cap, rfl, hcap, hat⟩ := h.2.1.form
 obtain ⟨n, hn⟩ : ∃ n, n = l.length := ⟨_, rfl⟩
 rw [← hn] at hl hcap hJ HT0
 clear hat b h hn hE
 have hE' : (E != 0) = true := by simpa using hJ0
 go_enter Tryz.func42, Tryz.ntmps42
 go_upto_region 3 with (fail)
 generalize w.alloc (.cells #[.int .i64 R.i, .int .u32 R.s, .int .i64 R.sl, .int .u32 R.d, .int .i64 R.dl, .int .u16 R.p.1, .int .u16 R.p.2, .int .u16 R.q.1, .int .u16 R.q.2, .int .u8 R.m.1, .int .u8 R.m.2, .int .i64 R.act] 64) = W0 at *
 obtain ⟨c0, c1, c2⟩ := blk3 HT0.out.1
 obtain ⟨d0, d1, d2, d3, d4, d5, d6, d7, d8, d9, d10, d11⟩ := blk12 HR0
 have hlz : w.heap.size < W0.heap.size := blk_lt HR0
 have kne : Nonempty (Kin (W0)) := ⟨⟨_, Below.refl _ _⟩⟩
 have kc0 : ∀ y : Kin (W0), y.val.cell? ⟨t, 2, none⟩ = some (.slice ad n cap) := fun y => by rw [kin_cell (by first | omega | (simp <;> omega))]; first | assumption | (simp [go_sem]; done) | simp [go_sem, *]
 have kc1 : ∀ y : Kin (W0), y.val.cell? ⟨t, 0, none⟩ = some (.int .i64 M) := fun y => by rw [kin_cell (by first | omega | (simp <;> omega))]; first | assumption | (simp [go_sem]; done) | simp [go_sem, *]
 have kc2 : ∀ y : Kin (W0), y.val.cell? ⟨w.heap.size, 0, none⟩ = some (.int .i64 R.i) := fun y => by rw [kin_cell (by first | omega | (simp <;> omega))]; first | assumption | (simp [go_sem]; done) | simp [go_sem, *]
 have kc3 : ∀ y : Kin (W0), y.val.cell? ⟨w.heap.size, 1, none⟩ = some (.int .u32 R.s) := fun y => by rw [kin_cell (by first | omega | (simp <;> omega))]; first | assumption | (simp [go_sem]; done) | simp [go_sem, *]
 have kc4 : ∀ y : Kin (W0), y.val.cell? ⟨w.heap.size, 2, none⟩ = some (.int .i64 R.sl) := fun y => by rw [kin_cell (by first | omega | (simp <;> omega))]; first | assumption | (simp [go_sem]; done) | simp [go_sem, *]
 have kc5 : ∀ y : Kin (W0), y.val.cell? ⟨w.heap.size, 3, none⟩ = some (.int .u32 R.d) := fun y => by rw [kin_cell (by first | omega | (simp <;> omega))]; first | assumption | (simp [go_sem]; done) | simp [go_sem, *]
 have kc6 : ∀ y : Kin (W0), y.val.cell? ⟨w.heap.size, 4, none⟩ = some (.int .i64 R.dl) := fun y => by rw [kin_cell (by first | omega | (simp <;> omega))]; first | assumption | (simp [go_sem]; done) | simp [go_sem, *]
 have kc7 : ∀ y : Kin (W0), y.val.cell? ⟨w.heap.size, 5, none⟩ = some (.int .u16 R.p.1) := fun y => by rw [kin_cell (by first | omega | (simp <;> omega))]; first | assumption | (simp [go_sem]; done) | simp [go_sem, *]
 have kc8 : ∀ y : Kin (W0), y.val.cell? ⟨w.heap.size, 6, none⟩ = some (.int .u16 R.p.2) := fun y => by rw [kin_cell (by first | omega | (simp <;> omega))]; first | assumption | (simp [go_sem]; done) | simp [go_sem, *]
 have kc9 : ∀ y : Kin (W0), y.val.cell? ⟨w.heap.size, 7, none⟩ = some (.int .u16 R.q.1) := fun y => by rw [kin_cell (by first | omega | (simp <;> omega))]; first | assumption | (simp [go_sem]; done) | simp [go_sem, *]
 have kc10 : ∀ y : Kin (W0), y.val.cell? ⟨w.heap.size, 8, none⟩ = some (.int .u16 R.q.2) := fun y => by rw [kin_cell (by first | omega | (simp <;> omega))]; first | assumption | (simp [go_sem]; done) | simp [go_sem, *]
 have kc11 : ∀ y : Kin (W0), y.val.cell? ⟨w.heap.size, 9, none⟩ = some (.int .u8 R.m.1) := fun y => by rw [kin_cell (by first | omega | (simp <;> omega))]; first | assumption | (simp [go_sem]; done) | simp [go_sem, *]
 have kc12 : ∀ y : Kin (W0), y.val.cell? ⟨w.heap.size, 10, none⟩ = some (.int .u8 R.m.2) := fun y => by rw [kin_cell (by first | omega | (simp <;> omega))]; first | assumption | (simp [go_sem]; done) | simp [go_sem, *]
 have kc13 : ∀ y : Kin (W0), y.val.cell? ⟨w.heap.size, 11, none⟩ = some (.int .i64 R.act) := fun y => by rw [kin_cell (by first | omega | (simp <;> omega))]; first | assumption | (simp [go_sem]; done) | simp [go_sem, *]
 refine wp_region_kin (W0) (Below.refl _ _) (by kernel_rfl) (by kernel_rfl) ?_
 repeat (go_big_quiet_step (first | (go_at_call 55; exact kin_call (hJ _ (Kin.is _)))))
 refine wpQuiet_nil ?_
 rintro wq ⟨⟨xq, hxq⟩, hyq⟩
 have hq : Below (W0).heap.size (W0) wq := by rw [hyq]; exact hxq
 clear hyq hxq xq
 clear kne kc0 kc1 kc2 kc3 kc4 kc5 kc6 kc7 kc8 kc9 kc10 kc11 kc12 kc13
 obtain ⟨hcq, hfq⟩ := bcell hq
 have hzq := hq.size
 try simp at hzq
 generalize wq = W1 at *
 have HT1 : Hid (Tab W1 t (.slice ad n cap) M A l) := HT0.out.on hq
 have HB1 : Hid (Below w.heap.size w W1) := HB0.out.trans (hq.mono HB0.out.size)
 clear hq hcq hfq hzq hJ d0 d1 d2 d3 d4 d5 d6 d7 d8 d9 d10 d11 c0 c1 c2 HT0 HR0 HB0 hlz
 clear W0
 go_wp2_with (fail)
 go_ret
 exact ⟨rfl, HB1.out⟩
set_option maxRecDepth 20000 in
set_option maxHeartbeats 8000000 in
theorem insertP (t : Nat) (v : Value) (M A : Int) (l : List Ru) (p : Int) (R : Ru) (w : World) (h : Tab w t v M A l) (hl : l.length ≤ 200000) (b : BdR R) (hJ0 : joinE l R = 0) (hp : ¬ (0 ≤ p ∧ p ≤ l.length)) :
  Calls Tryz.prog 42 #[.pointer (some ⟨t, 0, none⟩), .int .i64 p, .agg #[.int .i64 R.i, .int .u32 R.s, .int .i64 R.sl, .int .u32 R.d, .int .i64 R.dl, .int .u16 R.p.1, .int .u16 R.p.2, .int .u16 R.q.1, .int .u16 R.q.2, .int .u8 R.m.1, .int .u8 R.m.2, .int .i64 R.act]] w fun e w' => e = .returned (.int .i64 112) ∧ Below w.heap.size w w' := by
 have HT0 : Hid (Tab (w.alloc (.cells #[.int .i64 R.i, .int .u32 R.s, .int .i64 R.sl, .int .u32 R.d, .int .i64 R.dl, .int .u16 R.p.1, .int .u16 R.p.2, .int .u16 R.q.1, .int .u16 R.q.2, .int .u8 R.m.1, .int .u8 R.m.2, .int .i64 R.act] 64)) t v M A l) := h.on ((Below.refl _ _).alloc (Nat.le_refl _) _)
 have HB0 : Hid (Below w.heap.size w (w.alloc (.cells #[.int .i64 R.i, .int .u32 R.s, .int .i64 R.sl, .int .u32 R.d, .int .i64 R.dl, .int .u16 R.p.1, .int .u16 R.p.2, .int .u16 R.q.1, .int .u16 R.q.2, .int .u8 R.m.1, .int .u8 R.m.2, .int .i64 R.act] 64))) := (Below.refl _ _).alloc (Nat.le_refl _) _
 have HR0 := blk_new w (.cells #[.int .i64 R.i, .int .u32 R.s, .int .i64 R.sl, .int .u32 R.d, .int .i64 R.dl, .int .u16 R.p.1, .int .u16 R.p.2, .int .u16 R.q.1, .int .u16 R.q.2, .int .u8 R.m.1, .int .u8 R.m.2, .int .i64 R.act] 64)
 have hlt := h.lt
 have hne : ¬ t = w.heap.size := by omega
 have hA := fun W => amongC p 0 (l.length : Int) W
 rw [show amg p 0 (l.length : Int) = false by rw [Bool.eq_false_iff]; exact fun e => hp (amg_iff.1 e)] at hA
 have hJ : ∀ W, Below (w.alloc (.cells #[.int .i64 R.i, .int .u32 R.s, .int .i64 R.sl, .int .u32 R.d, .int .i64 R.dl, .int .u16 R.p.1, .int .u16 R.p.2, .int .u16 R.q.1, .int .u16 R.q.2, .int .u8 R.m.1, .int .u8 R.m.2, .int .i64 R.act] 64)).heap.size (w.alloc (.cells #[.int .i64 R.i, .int .u32 R.s, .int .i64 R.sl, .int .u32 R.d, .int .i64 R.dl, .int .u16 R.p.1, .int .u16 R.p.2, .int .u16 R.q.1, .int .u16 R.q.2, .int .u8 R.m.1, .int .u8 R.m.2, .int .i64 R.act] 64)) W → Calls Tryz.prog 55 #[v, .agg #[.int .i64 R.i, .int .u32 R.s, .int .i64 R.sl, .int .u32 R.d, .int .i64 R.dl, .int .u16 R.p.1, .int .u16 R.p.2, .int .u16 R.q.1, .int .u16 R.q.2, .int .u8 R.m.1, .int .u8 R.m.2, .int .i64 R.act]] W fun e w' => e = .returned (.int .i64 0) ∧ Below W.heap.size W w' := fun W hb => by
  have := mayJoinC v l R W b (HT0.out.2.1.src.keep hb) hl
  rw [hJ0] at this
  exact this
 obtain ⟨ad, cap, rfl, hcap, hat⟩ := h.2.1.form
 obtain ⟨n, hn⟩ : ∃ n, n = l.length := ⟨_, rfl⟩
 rw [← hn] at hl hcap hJ HT0 hA
 clear hat b h hn hJ0 hp
 have hn0 : (n : Int) ≤ 200000 := by omega
 go_enter Tryz.func42, Tryz.ntmps42
 go_upto_region 3 with (fail)
 generalize w.alloc (.cells #[.int .i64 R.i, .int .u32 R.s, .int .i64 R.sl, .int .u32 R.d, .int .i64 R.dl, .int .u16 R.p.1, .int .u16 R.p.2, .int .u16 R.q.1, .int .u16 R.q.2, .int .u8 R.m.1, .int .u8 R.m.2, .int .i64 R.act] 64) = W0 at *
 obtain ⟨c0, c1, c2⟩ := blk3 HT0.out.1
 obtain ⟨d0, d1, d2, d3, d4, d5, d6, d7, d8, d9, d10, d11⟩ := blk12 HR0
 have hlz : w.heap.size < W0.heap.size := blk_lt HR0
 have kne : Nonempty (Kin (W0)) := ⟨⟨_, Below.refl _ _⟩⟩
 have kc0 : ∀ y : Kin (W0), y.val.cell? ⟨t, 2, none⟩ = some (.slice ad n cap) := fun y => by rw [kin_cell (by first | omega | (simp <;> omega))]; first | assumption | (simp [go_sem]; done) | simp [go_sem, *]
 have kc1 : ∀ y : Kin (W0), y.val.cell? ⟨t, 0, none⟩ = some (.int .i64 M) := fun y => by rw [kin_cell (by first | omega | (simp <;> omega))]; first | assumption | (simp [go_sem]; done) | simp [go_sem, *]
 have kc2 : ∀ y : Kin (W0), y.val.cell? ⟨w.heap.size, 0, none⟩ = some (.int .i64 R.i) := fun y => by rw [kin_cell (by first | omega | (simp <;> omega))]; first | assumption | (simp [go_sem]; done) | simp [go_sem, *]
 have kc3 : ∀ y : Kin (W0), y.val.cell? ⟨w.heap.size, 1, none⟩ = some (.int .u32 R.s) := fun y => by rw [kin_cell (by first | omega | (simp <;> omega))]; first | assumption | (simp [go_sem]; done) | simp [go_sem, *]
 have kc4 : ∀ y : Kin (W0), y.val.cell? ⟨w.heap.size, 2, none⟩ = some (.int .i64 R.sl) := fun y => by rw [kin_cell (by first | omega | (simp <;> omega))]; first | assumption | (simp [go_sem]; done) | simp [go_sem, *]
 have kc5 : ∀ y : Kin (W0), y.val.cell? ⟨w.heap.size, 3, none⟩ = some (.int .u32 R.d) := fun y => by rw [kin_cell (by first | omega | (simp <;> omega))]; first | assumption | (simp [go_sem]; done) | simp [go_sem, *]
 have kc6 : ∀ y : Kin (W0), y.val.cell? ⟨w.heap.size, 4, none⟩ = some (.int .i64 R.dl) := fun y => by rw [kin_cell (by first | omega | (simp <;> omega))]; first | assumption | (simp [go_sem]; done) | simp [go_sem, *]
 have kc7 : ∀ y : Kin (W0), y.val.cell? ⟨w.heap.size, 5, none⟩ = some (.int .u16 R.p.1) := fun y => by rw [kin_cell (by first | omega | (simp <;> omega))]; first | assumption | (simp [go_sem]; done) | simp [go_sem, *]
 have kc8 : ∀ y : Kin (W0), y.val.cell? ⟨w.heap.size, 6, none⟩ = some (.int .u16 R.p.2) := fun y => by rw [kin_cell (by first | omega | (simp <;> omega))]; first | assumption | (simp [go_sem]; done) | simp [go_sem, *]
 have kc9 : ∀ y : Kin (W0), y.val.cell? ⟨w.heap.size, 7, none⟩ = some (.int .u16 R.q.1) := fun y => by rw [kin_cell (by first | omega | (simp <;> omega))]; first | assumption | (simp [go_sem]; done) | simp [go_sem, *]
 have kc10 : ∀ y : Kin (W0), y.val.cell? ⟨w.heap.size, 8, none⟩ = some (.int .u16 R.q.2) := fun y => by rw [kin_cell (by first | omega | (simp <;> omega))]; first | assumption | (simp [go_sem]; done) | simp [go_sem, *]
 have kc11 : ∀ y : Kin (W0), y.val.cell? ⟨w.heap.size, 9, none⟩ = some (.int .u8 R.m.1) := fun y => by rw [kin_cell (by first | omega | (simp <;> omega))]; first | assumption | (simp [go_sem]; done) | simp [go_sem, *]
 have kc12 : ∀ y : Kin (W0), y.val.cell? ⟨w.heap.size, 10, none⟩ = some (.int .u8 R.m.2) := fun y => by rw [kin_cell (by first | omega | (simp <;> omega))]; first | assumption | (simp [go_sem]; done) | simp [go_sem, *]
 have kc13 : ∀ y : Kin (W0), y.val.cell? ⟨w.heap.size, 11, none⟩ = some (.int .i64 R.act) := fun y => by rw [kin_cell (by first | omega | (simp <;> omega))]; first | assumption | (simp [go_sem]; done) | simp [go_sem, *]
 refine wp_region_kin (W0) (Below.refl _ _) (by kernel_rfl) (by kernel_rfl) ?_
 repeat (go_big_quiet_step (first | (go_at_call 55; exact kin_call (hJ _ (Kin.is _)))))
 refine wpQuiet_nil ?_
 rintro wq ⟨⟨xq, hxq⟩, hyq⟩
 have hq : Below (W0).heap.size (W0) wq := by rw [hyq]; exact hxq
 clear hyq hxq xq
 clear kne kc0 kc1 kc2 kc3 kc4 kc5 kc6 kc7 kc8 kc9 kc10 kc11 kc12 kc13
 obtain ⟨hcq, hfq⟩ := bcell hq
 have hzq := hq.size
 try simp at hzq
 generalize wq = W1 at *
 have HT1 : Hid (Tab W1 t (.slice ad n cap) M A l) := HT0.out.on hq
 have HB1 : Hid (Below w.heap.size w W1) := HB0.out.trans (hq.mono HB0.out.size)
 clear hq hcq hfq hzq hJ d0 d1 d2 d3 d4 d5 d6 d7 d8 d9 d10 d11 c0 c1 c2 HT0 HR0 HB0 hlz
 clear W0
 obtain ⟨c0, c1, c2⟩ := blk3 HT1.out.1
 go_wp2_with (fail)
 refine (hA _).mono ?_
 rintro e w1 ⟨rfl, hw⟩
 obtain rfl := hw.symm
 clear hw hA
 go_wp2_with (fail)
 go_ret
 exact ⟨rfl, HB1.out⟩
set_option maxRecDepth 20000 in
set_option maxHeartbeats 8000000 in
theorem insertF (t : Nat) (v : Value) (M A : Int) (l : List Ru) (p : Int) (R : Ru) (w : World) (h : Tab w t v M A l) (hl : l.length ≤ 200000) (b : BdR R) (hJ0 : joinE l R = 0) (hp : 0 ≤ p ∧ p ≤ l.length) (hm : M ≤ l.length) :
  Calls Tryz.prog 42 #[.pointer (some ⟨t, 0, none⟩), .int .i64 p, .agg #[.int .i64 R.i, .int .u32 R.s, .int .i64 R.sl, .int .u32 R.d, .int .i64 R.dl, .int .u16 R.p.1, .int .u16 R.p.2, .int .u16 R.q.1, .int .u16 R.q.2, .int .u8 R.m.1, .int .u8 R.m.2, .int .i64 R.act]] w fun e w' => e = .returned (.int .i64 113) ∧ Below w.heap.size w w' := by
 have HT0 : Hid (Tab (w.alloc (.cells #[.int .i64 R.i, .int .u32 R.s, .int .i64 R.sl, .int .u32 R.d, .int .i64 R.dl, .int .u16 R.p.1, .int .u16 R.p.2, .int .u16 R.q.1, .int .u16 R.q.2, .int .u8 R.m.1, .int .u8 R.m.2, .int .i64 R.act] 64)) t v M A l) := h.on ((Below.refl _ _).alloc (Nat.le_refl _) _)
 have HB0 : Hid (Below w.heap.size w (w.alloc (.cells #[.int .i64 R.i, .int .u32 R.s, .int .i64 R.sl, .int .u32 R.d, .int .i64 R.dl, .int .u16 R.p.1, .int .u16 R.p.2, .int .u16 R.q.1, .int .u16 R.q.2, .int .u8 R.m.1, .int .u8 R.m.2, .int .i64 R.act] 64))) := (Below.refl _ _).alloc (Nat.le_refl _) _
 have HR0 := blk_new w (.cells #[.int .i64 R.i, .int .u32 R.s, .int .i64 R.sl, .int .u32 R.d, .int .i64 R.dl, .int .u16 R.p.1, .int .u16 R.p.2, .int .u16 R.q.1, .int .u16 R.q.2, .int .u8 R.m.1, .int .u8 R.m.2, .int .i64 R.act] 64)
 have hlt := h.lt
 have hne : ¬ t = w.heap.size := by omega
 have hA := fun W => amongC p 0 (l.length : Int) W
 rw [show amg p 0 (l.length : Int) = true from amg_iff.2 hp] at hA
 have hJ : ∀ W, Below (w.alloc (.cells #[.int .i64 R.i, .int .u32 R.s, .int .i64 R.sl, .int .u32 R.d, .int .i64 R.dl, .int .u16 R.p.1, .int .u16 R.p.2, .int .u16 R.q.1, .int .u16 R.q.2, .int .u8 R.m.1, .int .u8 R.m.2, .int .i64 R.act] 64)).heap.size (w.alloc (.cells #[.int .i64 R.i, .int .u32 R.s, .int .i64 R.sl, .int .u32 R.d, .int .i64 R.dl, .int .u16 R.p.1, .int .u16 R.p.2, .int .u16 R.q.1, .int .u16 R.q.2, .int .u8 R.m.1, .int .u8 R.m.2, .int .i64 R.act] 64)) W → Calls Tryz.prog 55 #[v, .agg #[.int .i64 R.i, .int .u32 R.s, .int .i64 R.sl, .int .u32 R.d, .int .i64 R.dl, .int .u16 R.p.1, .int .u16 R.p.2, .int .u16 R.q.1, .int .u16 R.q.2, .int .u8 R.m.1, .int .u8 R.m.2, .int .i64 R.act]] W fun e w' => e = .returned (.int .i64 0) ∧ Below W.heap.size W w' := fun W hb => by
  have := mayJoinC v l R W b (HT0.out.2.1.src.keep hb) hl
  rw [hJ0] at this
  exact this
 obtain ⟨ad, cap, rfl, hcap, hat⟩ := h.2.1.form
 obtain ⟨n, hn⟩ : ∃ n, n = l.length := ⟨_, rfl⟩
 rw [← hn] at hl hcap hJ HT0 hA hm
 clear hat b h hn hJ0 hp
 have hn0 : (n : Int) ≤ 200000 := by omega
 go_enter Tryz.func42, Tryz.ntmps42
 go_upto_region 3 with (fail)
 generalize w.alloc (.cells #[.int .i64 R.i, .int .u32 R.s, .int .i64 R.sl, .int .u32 R.d, .int .i64 R.dl, .int .u16 R.p.1, .int .u16 R.p.2, .int .u16 R.q.1, .int .u16 R.q.2, .int .u8 R.m.1, .int .u8 R.m.2, .int .i64 R.act] 64) = W0 at *
 obtain ⟨c0, c1, c2⟩ := blk3 HT0.out.1
 obtain ⟨d0, d1, d2, d3, d4, d5, d6, d7, d8, d9, d10, d11⟩ := blk12 HR0
 have hlz : w.heap.size < W0.heap.size := blk_lt HR0
 have kne : Nonempty (Kin (W0)) := ⟨⟨_, Below.refl _ _⟩⟩
 have kc0 : ∀ y : Kin (W0), y.val.cell? ⟨t, 2, none⟩ = some (.slice ad n cap) := fun y => by rw [kin_cell (by first | omega | (simp <;> omega))]; first | assumption | (simp [go_sem]; done) | simp [go_sem, *]
 have kc1 : ∀ y : Kin (W0), y.val.cell? ⟨t, 0, none⟩ = some (.int .i64 M) := fun y => by rw [kin_cell (by first | omega | (simp <;> omega))]; first | assumption | (simp [go_sem]; done) | simp [go_sem, *]
 have kc2 : ∀ y : Kin (W0), y.val.cell? ⟨w.heap.size, 0, none⟩ = some (.int .i64 R.i) := fun y => by rw [kin_cell (by first | omega | (simp <;> omega))]; first | assumption | (simp [go_sem]; done) | simp [go_sem, *]
 have kc3 : ∀ y : Kin (W0), y.val.cell? ⟨w.heap.size, 1, none⟩ = some (.int .u32 R.s) := fun y => by rw [kin_cell (by first | omega | (simp <;> omega))]; first | assumption | (simp [go_sem]; done) | simp [go_sem, *]
 have kc4 : ∀ y : Kin (W0), y.val.cell? ⟨w.heap.size, 2, none⟩ = some (.int .i64 R.sl) := fun y => by rw [kin_cell (by first | omega | (simp <;> omega))]; first | assumption | (simp [go_sem]; done) | simp [go_sem, *]
 have kc5 : ∀ y : Kin (W0), y.val.cell? ⟨w.heap.size, 3, none⟩ = some (.int .u32 R.d) := fun y => by rw [kin_cell (by first | omega | (simp <;> omega))]; first | assumption | (simp [go_sem]; done) | simp [go_sem, *]
 have kc6 : ∀ y : Kin (W0), y.val.cell? ⟨w.heap.size, 4, none⟩ = some (.int .i64 R.dl) := fun y => by rw [kin_cell (by first | omega | (simp <;> omega))]; first | assumption | (simp [go_sem]; done) | simp [go_sem, *]
 have kc7 : ∀ y : Kin (W0), y.val.cell? ⟨w.heap.size, 5, none⟩ = some (.int .u16 R.p.1) := fun y => by rw [kin_cell (by first | omega | (simp <;> omega))]; first | assumption | (simp [go_sem]; done) | simp [go_sem, *]
 have kc8 : ∀ y : Kin (W0), y.val.cell? ⟨w.heap.size, 6, none⟩ = some (.int .u16 R.p.2) := fun y => by rw [kin_cell (by first | omega | (simp <;> omega))]; first | assumption | (simp [go_sem]; done) | simp [go_sem, *]
 have kc9 : ∀ y : Kin (W0), y.val.cell? ⟨w.heap.size, 7, none⟩ = some (.int .u16 R.q.1) := fun y => by rw [kin_cell (by first | omega | (simp <;> omega))]; first | assumption | (simp [go_sem]; done) | simp [go_sem, *]
 have kc10 : ∀ y : Kin (W0), y.val.cell? ⟨w.heap.size, 8, none⟩ = some (.int .u16 R.q.2) := fun y => by rw [kin_cell (by first | omega | (simp <;> omega))]; first | assumption | (simp [go_sem]; done) | simp [go_sem, *]
 have kc11 : ∀ y : Kin (W0), y.val.cell? ⟨w.heap.size, 9, none⟩ = some (.int .u8 R.m.1) := fun y => by rw [kin_cell (by first | omega | (simp <;> omega))]; first | assumption | (simp [go_sem]; done) | simp [go_sem, *]
 have kc12 : ∀ y : Kin (W0), y.val.cell? ⟨w.heap.size, 10, none⟩ = some (.int .u8 R.m.2) := fun y => by rw [kin_cell (by first | omega | (simp <;> omega))]; first | assumption | (simp [go_sem]; done) | simp [go_sem, *]
 have kc13 : ∀ y : Kin (W0), y.val.cell? ⟨w.heap.size, 11, none⟩ = some (.int .i64 R.act) := fun y => by rw [kin_cell (by first | omega | (simp <;> omega))]; first | assumption | (simp [go_sem]; done) | simp [go_sem, *]
 refine wp_region_kin (W0) (Below.refl _ _) (by kernel_rfl) (by kernel_rfl) ?_
 repeat (go_big_quiet_step (first | (go_at_call 55; exact kin_call (hJ _ (Kin.is _)))))
 refine wpQuiet_nil ?_
 rintro wq ⟨⟨xq, hxq⟩, hyq⟩
 have hq : Below (W0).heap.size (W0) wq := by rw [hyq]; exact hxq
 clear hyq hxq xq
 clear kne kc0 kc1 kc2 kc3 kc4 kc5 kc6 kc7 kc8 kc9 kc10 kc11 kc12 kc13
 obtain ⟨hcq, hfq⟩ := bcell hq
 have hzq := hq.size
 try simp at hzq
 generalize wq = W1 at *
 have HT1 : Hid (Tab W1 t (.slice ad n cap) M A l) := HT0.out.on hq
 have HB1 : Hid (Below w.heap.size w W1) := HB0.out.trans (hq.mono HB0.out.size)
 clear hq hcq hfq hzq hJ d0 d1 d2 d3 d4 d5 d6 d7 d8 d9 d10 d11 c0 c1 c2 HT0 HR0 HB0 hlz
 clear W0
 obtain ⟨c0, c1, c2⟩ := blk3 HT1.out.1
 go_wp2_with (fail)
 refine (hA _).mono ?_
 rintro e w1 ⟨rfl, hw⟩
 obtain rfl := hw.symm
 clear hw hA
 go_upto_region 8 with (fail)
 have hltq := HT1.out.lt
 have kne : Nonempty (Kin (W1)) := ⟨⟨_, Below.refl _ _⟩⟩
 have kc0 : ∀ y : Kin (W1), y.val.cell? ⟨t, 2, none⟩ = some (.slice ad n cap) := fun y => by rw [kin_cell (by first | omega | (simp <;> omega))]; first | assumption | (simp [go_sem]; done) | simp [go_sem, *]
 have kc1 : ∀ y : Kin (W1), y.val.cell? ⟨t, 0, none⟩ = some (.int .i64 M) := fun y => by rw [kin_cell (by first | omega | (simp <;> omega))]; first | assumption | (simp [go_sem]; done) | simp [go_sem, *]
 refine wp_region_kin (W1) (Below.refl _ _) (by kernel_rfl) (by kernel_rfl) ?_
 repeat (go_big_quiet_step (fail))
 refine wpQuiet_nil ?_
 rintro wq ⟨⟨xq, hxq⟩, hyq⟩
 have hq : Below (W1).heap.size (W1) wq := by rw [hyq]; exact hxq
 clear hyq hxq xq
 clear kne kc0 kc1
 obtain ⟨hcq, hfq⟩ := bcell hq
 have hzq := hq.size
 try simp at hzq
 generalize wq = W2 at *
 have HB2 : Hid (Below w.heap.size w W2) := HB1.out.trans (hq.mono HB1.out.size)
 clear hq hcq hfq hzq HT1 HB1 c0 c1 c2 hltq
 clear W1
 go_wp2_with (fail)
 go_ret
 exact ⟨rfl, HB2.out⟩
theorem insertC (t : Nat) (v : Value) (M A : Int) (l : List Ru) (p : Int) (R : Ru) (w : World) (h : Tab w t v M A l) (hl : l.length ≤ 200000) (b : BdR R) (hM : I64 M) :
  Calls Tryz.prog 42 #[.pointer (some ⟨t, 0, none⟩), .int .i64 p, .agg #[.int .i64 R.i, .int .u32 R.s, .int .i64 R.sl, .int .u32 R.d, .int .i64 R.dl, .int .u16 R.p.1, .int .u16 R.p.2, .int .u16 R.q.1, .int .u16 R.q.2, .int .u8 R.m.1, .int .u8 R.m.2, .int .i64 R.act]] w fun e w' => e = .returned (.int .i64 (insE l M p R)) ∧ ∃ v', Tab w' t v' M A (insL l M p R) ∧ Moved w w' t v v' := by
 have no : ∀ E : Int, E ≠ 0 → insE l M p R = E → (Calls Tryz.prog 42 #[.pointer (some ⟨t, 0, none⟩), .int .i64 p, .agg #[.int .i64 R.i, .int .u32 R.s, .int .i64 R.sl, .int .u32 R.d, .int .i64 R.dl, .int .u16 R.p.1, .int .u16 R.p.2, .int .u16 R.q.1, .int .u16 R.q.2, .int .u8 R.m.1, .int .u8 R.m.2, .int .i64 R.act]] w fun e w' => e = .returned (.int .i64 E) ∧ Below w.heap.size w w') →
   Calls Tryz.prog 42 #[.pointer (some ⟨t, 0, none⟩), .int .i64 p, .agg #[.int .i64 R.i, .int .u32 R.s, .int .i64 R.sl, .int .u32 R.d, .int .i64 R.dl, .int .u16 R.p.1, .int .u16 R.p.2, .int .u16 R.q.1, .int .u16 R.q.2, .int .u8 R.m.1, .int .u8 R.m.2, .int .i64 R.act]] w fun e w' => e = .returned (.int .i64 (insE l M p R)) ∧ ∃ v', Tab w' t v' M A (insL l M p R) ∧ Moved w w' t v v' := by
  intro E h0 h1 hC
  have e2 : insL l M p R = l := if_neg (by rw [h1]; exact h0)
  rw [e2, h1]
  exact hC.mono fun e w' ⟨h1, h2⟩ => ⟨h1, v, h.on h2, Moved.of_below h2⟩
 by_cases hJ : joinE l R = 0
 ·by_cases hp : 0 ≤ p ∧ p ≤ l.length
  ·by_cases hm : M ≤ l.length
   ·exact no 113 (by decide) (by unfold insE; rw [if_pos hJ, if_pos hp, if_pos hm]) (insertF t v M A l p R w h hl b hJ hp hm)
   ·have e1 : insE l M p R = 0 := by unfold insE; rw [if_pos hJ, if_pos hp, if_neg hm]
    have e2 : insL l M p R = putL l p.toNat R := if_pos e1
    rw [e1, e2]
    have := insertOk t v M A l p.toNat R w h hl b hM hJ (by omega) (by omega)
    rw [Int.toNat_of_nonneg hp.1] at this
    exact this
  ·exact no 112 (by decide) (by unfold insE; rw [if_pos hJ, if_neg hp]) (insertP t v M A l p R w h hl b hJ hp)
 ·exact no _ hJ (by unfold insE; rw [if_neg hJ]) (insertJ t v M A l p R w h hl b hJ)
end Go.Proofs.YtabkbfopklpckaaGreat
