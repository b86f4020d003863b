/-
  PkBJ: TbJ TbD, one behind the other (tools/pack.py).
-/
import Derived.Test.YtgokmkholjfhbaaGreatPkBH
import Derived.Test.YtgokmkholjfhbaaGreatPkAE
set_option linter.unusedVariables false
set_option linter.unusedSimpArgs false
namespace Go.Proofs.YtgokmkholjfhbaaGreat
open Go.RowKit
set_option maxRecDepth 20000 in
set_option maxHeartbeats 8000000 in
theorem insertJ (t : Nat) (v : Value) (M A : Int) (l : List Ru) (p : Int) (R : Ru) (w : World) (h : Tab w t v M A l) (hl : l.length ≤ 200000) (b : BdR R) (hJ0 : joinE l R ≠ 0) :
  Calls Tryz.prog 35 #[.pointer (some ⟨t, 0, none⟩), .int .i64 p, .agg #[.int .i64 R.i, .int .u32 R.s, .int .i64 R.sl, .int .u32 R.d, .int .i64 R.dl, .int .u16 R.p.1, .int .u16 R.p.2, .int .u16 R.q.1, .int .u16 R.q.2, .int .u8 R.m.1, .int .u8 R.m.2, .int .i64 R.act]] w fun e w' => e = .returned (.int .i64 (joinE l R)) ∧ Below w.heap.size w w' := by
 have HT0 : Hid (Tab (w.alloc (.cells #[.int .i64 R.i, .int .u32 R.s, .int .i64 R.sl, .int .u32 R.d, .int .i64 R.dl, .int .u16 R.p.1, .int .u16 R.p.2, .int .u16 R.q.1, .int .u16 R.q.2, .int .u8 R.m.1, .int .u8 R.m.2, .int .i64 R.act] 64)) t v M A l) := h.on ((Below.refl _ _).alloc (Nat.le_refl _) _)
 have HB0 : Hid (Below w.heap.size w (w.alloc (.cells #[.int .i64 R.i, .int .u32 R.s, .int .i64 R.sl, .int .u32 R.d, .int .i64 R.dl, .int .u16 R.p.1, .int .u16 R.p.2, .int .u16 R.q.1, .int .u16 R.q.2, .int .u8 R.m.1, .int .u8 R.m.2, .int .i64 R.act] 64))) := (Below.refl _ _).alloc (Nat.le_refl _) _
 have HR0 := blk_new w (.cells #[.int .i64 R.i, .int .u32 R.s, .int .i64 R.sl, .int .u32 R.d, .int .i64 R.dl, .int .u16 R.p.1, .int .u16 R.p.2, .int .u16 R.q.1, .int .u16 R.q.2, .int .u8 R.m.1, .int .u8 R.m.2, .int .i64 R.act] 64)
 have hlt := h.lt
 have hne : ¬ t = w.heap.size := by omega
 obtain ⟨E, hE⟩ : ∃ E, E = joinE l R := ⟨_, rfl⟩
 rw [← hE] at hJ0 ⊢
 have hJ : ∀ W, Below (w.alloc (.cells #[.int .i64 R.i, .int .u32 R.s, .int .i64 R.sl, .int .u32 R.d, .int .i64 R.dl, .int .u16 R.p.1, .int .u16 R.p.2, .int .u16 R.q.1, .int .u16 R.q.2, .int .u8 R.m.1, .int .u8 R.m.2, .int .i64 R.act] 64)).heap.size (w.alloc (.cells #[.int .i64 R.i, .int .u32 R.s, .int .i64 R.sl, .int .u32 R.d, .int .i64 R.dl, .int .u16 R.p.1, .int .u16 R.p.2, .int .u16 R.q.1, .int .u16 R.q.2, .int .u8 R.m.1, .int .u8 R.m.2, .int .i64 R.act] 64)) W → Calls Tryz.prog 48 #[v, .agg #[.int .i64 R.i, .int .u32 R.s, .int .i64 R.sl, .int .u32 R.d, .int .i64 R.dl, .int .u16 R.p.1, .int .u16 R.p.2, .int .u16 R.q.1, .int .u16 R.q.2, .int .u8 R.m.1, .int .u8 R.m.2, .int .i64 R.act]] W fun e w' => e = .returned (.int .i64 E) ∧ Below W.heap.size W w' := fun W hb => by
  have := mayJoinC v l R W b (HT0.out.2.1.src.keep hb) hl
  rw [← hE] at this
  exact this
 obtain ⟨ad, cap, rfl, hcap, hat⟩ := h.2.1.form
 obtain ⟨n, hn⟩ : ∃ n, n = l.length := ⟨_, rfl⟩
 rw [← hn] at hl hcap hJ HT0
 clear hat b h hn hE
 have hE' : (E != 0) = true := by simpa using hJ0
 go_enter Tryz.func35, Tryz.ntmps35
 go_upto_region 3 with (fail)
 generalize w.alloc (.cells #[.int .i64 R.i, .int .u32 R.s, .int .i64 R.sl, .int .u32 R.d, .int .i64 R.dl, .int .u16 R.p.1, .int .u16 R.p.2, .int .u16 R.q.1, .int .u16 R.q.2, .int .u8 R.m.1, .int .u8 R.m.2, .int .i64 R.act] 64) = W0 at *
 obtain ⟨c0, c1, c2⟩ := blk3 HT0.out.1
 obtain ⟨d0, d1, d2, d3, d4, d5, d6, d7, d8, d9, d10, d11⟩ := blk12 HR0
 have hlz : w.heap.size < W0.heap.size := blk_lt HR0
 have kne : Nonempty (Kin (W0)) := ⟨⟨_, Below.refl _ _⟩⟩
 have kc0 : ∀ y : Kin (W0), y.val.cell? ⟨t, 2, none⟩ = some (.slice ad n cap) := kcL
 have kc1 : ∀ y : Kin (W0), y.val.cell? ⟨t, 0, none⟩ = some (.int .i64 M) := kcL
 have kc2 : ∀ y : Kin (W0), y.val.cell? ⟨w.heap.size, 0, none⟩ = some (.int .i64 R.i) := kcL
 have kc3 : ∀ y : Kin (W0), y.val.cell? ⟨w.heap.size, 1, none⟩ = some (.int .u32 R.s) := kcL
 have kc4 : ∀ y : Kin (W0), y.val.cell? ⟨w.heap.size, 2, none⟩ = some (.int .i64 R.sl) := kcL
 have kc5 : ∀ y : Kin (W0), y.val.cell? ⟨w.heap.size, 3, none⟩ = some (.int .u32 R.d) := kcL
 have kc6 : ∀ y : Kin (W0), y.val.cell? ⟨w.heap.size, 4, none⟩ = some (.int .i64 R.dl) := kcL
 have kc7 : ∀ y : Kin (W0), y.val.cell? ⟨w.heap.size, 5, none⟩ = some (.int .u16 R.p.1) := kcL
 have kc8 : ∀ y : Kin (W0), y.val.cell? ⟨w.heap.size, 6, none⟩ = some (.int .u16 R.p.2) := kcL
 have kc9 : ∀ y : Kin (W0), y.val.cell? ⟨w.heap.size, 7, none⟩ = some (.int .u16 R.q.1) := kcL
 have kc10 : ∀ y : Kin (W0), y.val.cell? ⟨w.heap.size, 8, none⟩ = some (.int .u16 R.q.2) := kcL
 have kc11 : ∀ y : Kin (W0), y.val.cell? ⟨w.heap.size, 9, none⟩ = some (.int .u8 R.m.1) := kcL
 have kc12 : ∀ y : Kin (W0), y.val.cell? ⟨w.heap.size, 10, none⟩ = some (.int .u8 R.m.2) := kcL
 have kc13 : ∀ y : Kin (W0), y.val.cell? ⟨w.heap.size, 11, none⟩ = some (.int .i64 R.act) := kcL
 refine wp_region_kin (W0) (Below.refl _ _) (by kernel_rfl) (by kernel_rfl) ?_
 repeat (go_big_quiet_step (first | (go_at_call 48; exact kin_call (hJ _ (Kin.is _)))))
 refine wpQuiet_nil ?_
 rintro wq ⟨⟨xq, hxq⟩, hyq⟩
 have hq : Below (W0).heap.size (W0) wq := by rw [hyq]; exact hxq
 clear hyq hxq xq
 clear kne kc0 kc1 kc2 kc3 kc4 kc5 kc6 kc7 kc8 kc9 kc10 kc11 kc12 kc13
 obtain ⟨hcq, hfq⟩ := bcell hq
 have hzq := hq.size
 try simp at hzq
 generalize wq = W1 at *
 have HT1 : Hid (Tab W1 t (.slice ad n cap) M A l) := HT0.out.on hq
 have HB1 : Hid (Below w.heap.size w W1) := HB0.out.trans (hq.mono HB0.out.size)
 clear hq hcq hfq hzq hJ d0 d1 d2 d3 d4 d5 d6 d7 d8 d9 d10 d11 c0 c1 c2 HT0 HR0 HB0 hlz
 clear W0
 go_wp2_with (fail)
 go_ret
 exact ⟨rfl, HB1.out⟩
set_option maxRecDepth 20000 in
set_option maxHeartbeats 8000000 in
theorem insertP (t : Nat) (v : Value) (M A : Int) (l : List Ru) (p : Int) (R : Ru) (w : World) (h : Tab w t v M A l) (hl : l.length ≤ 200000) (b : BdR R) (hJ0 : joinE l R = 0) (hp : ¬ (0 ≤ p ∧ p ≤ l.length)) :
  Calls Tryz.prog 35 #[.pointer (some ⟨t, 0, none⟩), .int .i64 p, .agg #[.int .i64 R.i, .int .u32 R.s, .int .i64 R.sl, .int .u32 R.d, .int .i64 R.dl, .int .u16 R.p.1, .int .u16 R.p.2, .int .u16 R.q.1, .int .u16 R.q.2, .int .u8 R.m.1, .int .u8 R.m.2, .int .i64 R.act]] w fun e w' => e = .returned (.int .i64 112) ∧ Below w.heap.size w w' := by
 have HT0 : Hid (Tab (w.alloc (.cells #[.int .i64 R.i, .int .u32 R.s, .int .i64 R.sl, .int .u32 R.d, .int .i64 R.dl, .int .u16 R.p.1, .int .u16 R.p.2, .int .u16 R.q.1, .int .u16 R.q.2, .int .u8 R.m.1, .int .u8 R.m.2, .int .i64 R.act] 64)) t v M A l) := h.on ((Below.refl _ _).alloc (Nat.le_refl _) _)
 have HB0 : Hid (Below w.heap.size w (w.alloc (.cells #[.int .i64 R.i, .int .u32 R.s, .int .i64 R.sl, .int .u32 R.d, .int .i64 R.dl, .int .u16 R.p.1, .int .u16 R.p.2, .int .u16 R.q.1, .int .u16 R.q.2, .int .u8 R.m.1, .int .u8 R.m.2, .int .i64 R.act] 64))) := (Below.refl _ _).alloc (Nat.le_refl _) _
 have HR0 := blk_new w (.cells #[.int .i64 R.i, .int .u32 R.s, .int .i64 R.sl, .int .u32 R.d, .int .i64 R.dl, .int .u16 R.p.1, .int .u16 R.p.2, .int .u16 R.q.1, .int .u16 R.q.2, .int .u8 R.m.1, .int .u8 R.m.2, .int .i64 R.act] 64)
 have hlt := h.lt
 have hne : ¬ t = w.heap.size := by omega
 have hA := fun W => amongC p 0 (l.length : Int) W
 rw [show amg p 0 (l.length : Int) = false by rw [Bool.eq_false_iff]; exact fun e => hp (amg_iff.1 e)] at hA
 have hJ : ∀ W, Below (w.alloc (.cells #[.int .i64 R.i, .int .u32 R.s, .int .i64 R.sl, .int .u32 R.d, .int .i64 R.dl, .int .u16 R.p.1, .int .u16 R.p.2, .int .u16 R.q.1, .int .u16 R.q.2, .int .u8 R.m.1, .int .u8 R.m.2, .int .i64 R.act] 64)).heap.size (w.alloc (.cells #[.int .i64 R.i, .int .u32 R.s, .int .i64 R.sl, .int .u32 R.d, .int .i64 R.dl, .int .u16 R.p.1, .int .u16 R.p.2, .int .u16 R.q.1, .int .u16 R.q.2, .int .u8 R.m.1, .int .u8 R.m.2, .int .i64 R.act] 64)) W → Calls Tryz.prog 48 #[v, .agg #[.int .i64 R.i, .int .u32 R.s, .int .i64 R.sl, .int .u32 R.d, .int .i64 R.dl, .int .u16 R.p.1, .int .u16 R.p.2, .int .u16 R.q.1, .int .u16 R.q.2, .int .u8 R.m.1, .int .u8 R.m.2, .int .i64 R.act]] W fun e w' => e = .returned (.int .i64 0) ∧ Below W.heap.size W w' := fun W hb => by
  have := mayJoinC v l R W b (HT0.out.2.1.src.keep hb) hl
  rw [hJ0] at this
  exact this
 obtain ⟨ad, cap, rfl, hcap, hat⟩ := h.2.1.form
 obtain ⟨n, hn⟩ : ∃ n, n = l.length := ⟨_, rfl⟩
 rw [← hn] at hl hcap hJ HT0 hA
 clear hat b h hn hJ0 hp
 have hn0 : (n : Int) ≤ 200000 := by omega
 go_enter Tryz.func35, Tryz.ntmps35
 go_upto_region 3 with (fail)
 generalize w.alloc (.cells #[.int .i64 R.i, .int .u32 R.s, .int .i64 R.sl, .int .u32 R.d, .int .i64 R.dl, .int .u16 R.p.1, .int .u16 R.p.2, .int .u16 R.q.1, .int .u16 R.q.2, .int .u8 R.m.1, .int .u8 R.m.2, .int .i64 R.act] 64) = W0 at *
 obtain ⟨c0, c1, c2⟩ := blk3 HT0.out.1
 obtain ⟨d0, d1, d2, d3, d4, d5, d6, d7, d8, d9, d10, d11⟩ := blk12 HR0
 have hlz : w.heap.size < W0.heap.size := blk_lt HR0
 have kne : Nonempty (Kin (W0)) := ⟨⟨_, Below.refl _ _⟩⟩
 have kc0 : ∀ y : Kin (W0), y.val.cell? ⟨t, 2, none⟩ = some (.slice ad n cap) := kcL
 have kc1 : ∀ y : Kin (W0), y.val.cell? ⟨t, 0, none⟩ = some (.int .i64 M) := kcL
 have kc2 : ∀ y : Kin (W0), y.val.cell? ⟨w.heap.size, 0, none⟩ = some (.int .i64 R.i) := kcL
 have kc3 : ∀ y : Kin (W0), y.val.cell? ⟨w.heap.size, 1, none⟩ = some (.int .u32 R.s) := kcL
 have kc4 : ∀ y : Kin (W0), y.val.cell? ⟨w.heap.size, 2, none⟩ = some (.int .i64 R.sl) := kcL
 have kc5 : ∀ y : Kin (W0), y.val.cell? ⟨w.heap.size, 3, none⟩ = some (.int .u32 R.d) := kcL
 have kc6 : ∀ y : Kin (W0), y.val.cell? ⟨w.heap.size, 4, none⟩ = some (.int .i64 R.dl) := kcL
 have kc7 : ∀ y : Kin (W0), y.val.cell? ⟨w.heap.size, 5, none⟩ = some (.int .u16 R.p.1) := kcL
 have kc8 : ∀ y : Kin (W0), y.val.cell? ⟨w.heap.size, 6, none⟩ = some (.int .u16 R.p.2) := kcL
 have kc9 : ∀ y : Kin (W0), y.val.cell? ⟨w.heap.size, 7, none⟩ = some (.int .u16 R.q.1) := kcL
 have kc10 : ∀ y : Kin (W0), y.val.cell? ⟨w.heap.size, 8, none⟩ = some (.int .u16 R.q.2) := kcL
 have kc11 : ∀ y : Kin (W0), y.val.cell? ⟨w.heap.size, 9, none⟩ = some (.int .u8 R.m.1) := kcL
 have kc12 : ∀ y : Kin (W0), y.val.cell? ⟨w.heap.size, 10, none⟩ = some (.int .u8 R.m.2) := kcL
 have kc13 : ∀ y : Kin (W0), y.val.cell? ⟨w.heap.size, 11, none⟩ = some (.int .i64 R.act) := kcL
 refine wp_region_kin (W0) (Below.refl _ _) (by kernel_rfl) (by kernel_rfl) ?_
 repeat (go_big_quiet_step (first | (go_at_call 48; exact kin_call (hJ _ (Kin.is _)))))
 refine wpQuiet_nil ?_
 rintro wq ⟨⟨xq, hxq⟩, hyq⟩
 have hq : Below (W0).heap.size (W0) wq := by rw [hyq]; exact hxq
 clear hyq hxq xq
 clear kne kc0 kc1 kc2 kc3 kc4 kc5 kc6 kc7 kc8 kc9 kc10 kc11 kc12 kc13
 obtain ⟨hcq, hfq⟩ := bcell hq
 have hzq := hq.size
 try simp at hzq
 generalize wq = W1 at *
 have HT1 : Hid (Tab W1 t (.slice ad n cap) M A l) := HT0.out.on hq
 have HB1 : Hid (Below w.heap.size w W1) := HB0.out.trans (hq.mono HB0.out.size)
 clear hq hcq hfq hzq hJ d0 d1 d2 d3 d4 d5 d6 d7 d8 d9 d10 d11 c0 c1 c2 HT0 HR0 HB0 hlz
 clear W0
 obtain ⟨c0, c1, c2⟩ := blk3 HT1.out.1
 go_wp2_with (fail)
 refine (hA _).mono ?_
 rintro e w1 ⟨rfl, hw⟩
 obtain rfl := hw.symm
 clear hw hA
 go_wp2_with (fail)
 go_ret
 exact ⟨rfl, HB1.out⟩
set_option maxRecDepth 20000 in
set_option maxHeartbeats 8000000 in
theorem insertF (t : Nat) (v : Value) (M A : Int) (l : List Ru) (p : Int) (R : Ru) (w : World) (h : Tab w t v M A l) (hl : l.length ≤ 200000) (b : BdR R) (hJ0 : joinE l R = 0) (hp : 0 ≤ p ∧ p ≤ l.length) (hm : M ≤ l.length) :
  Calls Tryz.prog 35 #[.pointer (some ⟨t, 0, none⟩), .int .i64 p, .agg #[.int .i64 R.i, .int .u32 R.s, .int .i64 R.sl, .int .u32 R.d, .int .i64 R.dl, .int .u16 R.p.1, .int .u16 R.p.2, .int .u16 R.q.1, .int .u16 R.q.2, .int .u8 R.m.1, .int .u8 R.m.2, .int .i64 R.act]] w fun e w' => e = .returned (.int .i64 113) ∧ Below w.heap.size w w' := by
 have HT0 : Hid (Tab (w.alloc (.cells #[.int .i64 R.i, .int .u32 R.s, .int .i64 R.sl, .int .u32 R.d, .int .i64 R.dl, .int .u16 R.p.1, .int .u16 R.p.2, .int .u16 R.q.1, .int .u16 R.q.2, .int .u8 R.m.1, .int .u8 R.m.2, .int .i64 R.act] 64)) t v M A l) := h.on ((Below.refl _ _).alloc (Nat.le_refl _) _)
 have HB0 : Hid (Below w.heap.size w (w.alloc (.cells #[.int .i64 R.i, .int .u32 R.s, .int .i64 R.sl, .int .u32 R.d, .int .i64 R.dl, .int .u16 R.p.1, .int .u16 R.p.2, .int .u16 R.q.1, .int .u16 R.q.2, .int .u8 R.m.1, .int .u8 R.m.2, .int .i64 R.act] 64))) := (Below.refl _ _).alloc (Nat.le_refl _) _
 have HR0 := blk_new w (.cells #[.int .i64 R.i, .int .u32 R.s, .int .i64 R.sl, .int .u32 R.d, .int .i64 R.dl, .int .u16 R.p.1, .int .u16 R.p.2, .int .u16 R.q.1, .int .u16 R.q.2, .int .u8 R.m.1, .int .u8 R.m.2, .int .i64 R.act] 64)
 have hlt := h.lt
 have hne : ¬ t = w.heap.size := by omega
 have hA := fun W => amongC p 0 (l.length : Int) W
 rw [show amg p 0 (l.length : Int) = true from amg_iff.2 hp] at hA
 have hJ : ∀ W, Below (w.alloc (.cells #[.int .i64 R.i, .int .u32 R.s, .int .i64 R.sl, .int .u32 R.d, .int .i64 R.dl, .int .u16 R.p.1, .int .u16 R.p.2, .int .u16 R.q.1, .int .u16 R.q.2, .int .u8 R.m.1, .int .u8 R.m.2, .int .i64 R.act] 64)).heap.size (w.alloc (.cells #[.int .i64 R.i, .int .u32 R.s, .int .i64 R.sl, .int .u32 R.d, .int .i64 R.dl, .int .u16 R.p.1, .int .u16 R.p.2, .int .u16 R.q.1, .int .u16 R.q.2, .int .u8 R.m.1, .int .u8 R.m.2, .int .i64 R.act] 64)) W → Calls Tryz.prog 48 #[v, .agg #[.int .i64 R.i, .int .u32 R.s, .int .i64 R.sl, .int .u32 R.d, .int .i64 R.dl, .int .u16 R.p.1, .int .u16 R.p.2, .int .u16 R.q.1, .int .u16 R.q.2, .int .u8 R.m.1, .int .u8 R.m.2, .int .i64 R.act]] W fun e w' => e = .returned (.int .i64 0) ∧ Below W.heap.size W w' := fun W hb => by
  have := mayJoinC v l R W b (HT0.out.2.1.src.keep hb) hl
  rw [hJ0] at this
  exact this
 obtain ⟨ad, cap, rfl, hcap, hat⟩ := h.2.1.form
 obtain ⟨n, hn⟩ : ∃ n, n = l.length := ⟨_, rfl⟩
 rw [← hn] at hl hcap hJ HT0 hA hm
 clear hat b h hn hJ0 hp
 have hn0 : (n : Int) ≤ 200000 := by omega
 go_enter Tryz.func35, Tryz.ntmps35
 go_upto_region 3 with (fail)
 generalize w.alloc (.cells #[.int .i64 R.i, .int .u32 R.s, .int .i64 R.sl, .int .u32 R.d, .int .i64 R.dl, .int .u16 R.p.1, .int .u16 R.p.2, .int .u16 R.q.1, .int .u16 R.q.2, .int .u8 R.m.1, .int .u8 R.m.2, .int .i64 R.act] 64) = W0 at *
 obtain ⟨c0, c1, c2⟩ := blk3 HT0.out.1
 obtain ⟨d0, d1, d2, d3, d4, d5, d6, d7, d8, d9, d10, d11⟩ := blk12 HR0
 have hlz : w.heap.size < W0.heap.size := blk_lt HR0
 have kne : Nonempty (Kin (W0)) := ⟨⟨_, Below.refl _ _⟩⟩
 have kc0 : ∀ y : Kin (W0), y.val.cell? ⟨t, 2, none⟩ = some (.slice ad n cap) := kcL
 have kc1 : ∀ y : Kin (W0), y.val.cell? ⟨t, 0, none⟩ = some (.int .i64 M) := kcL
 have kc2 : ∀ y : Kin (W0), y.val.cell? ⟨w.heap.size, 0, none⟩ = some (.int .i64 R.i) := kcL
 have kc3 : ∀ y : Kin (W0), y.val.cell? ⟨w.heap.size, 1, none⟩ = some (.int .u32 R.s) := kcL
 have kc4 : ∀ y : Kin (W0), y.val.cell? ⟨w.heap.size, 2, none⟩ = some (.int .i64 R.sl) := kcL
 have kc5 : ∀ y : Kin (W0), y.val.cell? ⟨w.heap.size, 3, none⟩ = some (.int .u32 R.d) := kcL
 have kc6 : ∀ y : Kin (W0), y.val.cell? ⟨w.heap.size, 4, none⟩ = some (.int .i64 R.dl) := kcL
 have kc7 : ∀ y : Kin (W0), y.val.cell? ⟨w.heap.size, 5, none⟩ = some (.int .u16 R.p.1) := kcL
 have kc8 : ∀ y : Kin (W0), y.val.cell? ⟨w.heap.size, 6, none⟩ = some (.int .u16 R.p.2) := kcL
 have kc9 : ∀ y : Kin (W0), y.val.cell? ⟨w.heap.size, 7, none⟩ = some (.int .u16 R.q.1) := kcL
 have kc10 : ∀ y : Kin (W0), y.val.cell? ⟨w.heap.size, 8, none⟩ = some (.int .u16 R.q.2) := kcL
 have kc11 : ∀ y : Kin (W0), y.val.cell? ⟨w.heap.size, 9, none⟩ = some (.int .u8 R.m.1) := kcL
 have kc12 : ∀ y : Kin (W0), y.val.cell? ⟨w.heap.size, 10, none⟩ = some (.int .u8 R.m.2) := kcL
 have kc13 : ∀ y : Kin (W0), y.val.cell? ⟨w.heap.size, 11, none⟩ = some (.int .i64 R.act) := kcL
 refine wp_region_kin (W0) (Below.refl _ _) (by kernel_rfl) (by kernel_rfl) ?_
 repeat (go_big_quiet_step (first | (go_at_call 48; exact kin_call (hJ _ (Kin.is _)))))
 refine wpQuiet_nil ?_
 rintro wq ⟨⟨xq, hxq⟩, hyq⟩
 have hq : Below (W0).heap.size (W0) wq := by rw [hyq]; exact hxq
 clear hyq hxq xq
 clear kne kc0 kc1 kc2 kc3 kc4 kc5 kc6 kc7 kc8 kc9 kc10 kc11 kc12 kc13
 obtain ⟨hcq, hfq⟩ := bcell hq
 have hzq := hq.size
 try simp at hzq
 generalize wq = W1 at *
 have HT1 : Hid (Tab W1 t (.slice ad n cap) M A l) := HT0.out.on hq
 have HB1 : Hid (Below w.heap.size w W1) := HB0.out.trans (hq.mono HB0.out.size)
 clear hq hcq hfq hzq hJ d0 d1 d2 d3 d4 d5 d6 d7 d8 d9 d10 d11 c0 c1 c2 HT0 HR0 HB0 hlz
 clear W0
 obtain ⟨c0, c1, c2⟩ := blk3 HT1.out.1
 go_wp2_with (fail)
 refine (hA _).mono ?_
 rintro e w1 ⟨rfl, hw⟩
 obtain rfl := hw.symm
 clear hw hA
 go_upto_region 8 with (fail)
 have hltq := HT1.out.lt
 have kne : Nonempty (Kin (W1)) := ⟨⟨_, Below.refl _ _⟩⟩
 have kc0 : ∀ y : Kin (W1), y.val.cell? ⟨t, 2, none⟩ = some (.slice ad n cap) := kcL
 have kc1 : ∀ y : Kin (W1), y.val.cell? ⟨t, 0, none⟩ = some (.int .i64 M) := kcL
 refine wp_region_kin (W1) (Below.refl _ _) (by kernel_rfl) (by kernel_rfl) ?_
 repeat (go_big_quiet_step (fail))
 refine wpQuiet_nil ?_
 rintro wq ⟨⟨xq, hxq⟩, hyq⟩
 have hq : Below (W1).heap.size (W1) wq := by rw [hyq]; exact hxq
 clear hyq hxq xq
 clear kne kc0 kc1
 obtain ⟨hcq, hfq⟩ := bcell hq
 have hzq := hq.size
 try simp at hzq
 generalize wq = W2 at *
 have HB2 : Hid (Below w.heap.size w W2) := HB1.out.trans (hq.mono HB1.out.size)
 clear hq hcq hfq hzq HT1 HB1 c0 c1 c2 hltq
 clear W1
 go_wp2_with (fail)
 go_ret
 exact ⟨rfl, HB2.out⟩
theorem insertC (t : Nat) (v : Value) (M A : Int) (l : List Ru) (p : Int) (R : Ru) (w : World) (h : Tab w t v M A l) (hl : l.length ≤ 200000) (b : BdR R) (hM : I64 M) :
  Calls Tryz.prog 35 #[.pointer (some ⟨t, 0, none⟩), .int .i64 p, .agg #[.int .i64 R.i, .int .u32 R.s, .int .i64 R.sl, .int .u32 R.d, .int .i64 R.dl, .int .u16 R.p.1, .int .u16 R.p.2, .int .u16 R.q.1, .int .u16 R.q.2, .int .u8 R.m.1, .int .u8 R.m.2, .int .i64 R.act]] w fun e w' => e = .returned (.int .i64 (insE l M p R)) ∧ ∃ v', Tab w' t v' M A (insL l M p R) ∧ Moved w w' t v v' := by
 have no : ∀ E : Int, E ≠ 0 → insE l M p R = E → (Calls Tryz.prog 35 #[.pointer (some ⟨t, 0, none⟩), .int .i64 p, .agg #[.int .i64 R.i, .int .u32 R.s, .int .i64 R.sl, .int .u32 R.d, .int .i64 R.dl, .int .u16 R.p.1, .int .u16 R.p.2, .int .u16 R.q.1, .int .u16 R.q.2, .int .u8 R.m.1, .int .u8 R.m.2, .int .i64 R.act]] w fun e w' => e = .returned (.int .i64 E) ∧ Below w.heap.size w w') →
   Calls Tryz.prog 35 #[.pointer (some ⟨t, 0, none⟩), .int .i64 p, .agg #[.int .i64 R.i, .int .u32 R.s, .int .i64 R.sl, .int .u32 R.d, .int .i64 R.dl, .int .u16 R.p.1, .int .u16 R.p.2, .int .u16 R.q.1, .int .u16 R.q.2, .int .u8 R.m.1, .int .u8 R.m.2, .int .i64 R.act]] w fun e w' => e = .returned (.int .i64 (insE l M p R)) ∧ ∃ v', Tab w' t v' M A (insL l M p R) ∧ Moved w w' t v v' := by
  intro E h0 h1 hC
  have e2 : insL l M p R = l := if_neg (by rw [h1]; exact h0)
  rw [e2, h1]
  exact hC.mono fun e w' ⟨h1, h2⟩ => ⟨h1, v, h.on h2, Moved.of_below h2⟩
 by_cases hJ : joinE l R = 0
 ·by_cases hp : 0 ≤ p ∧ p ≤ l.length
  ·by_cases hm : M ≤ l.length
   ·exact no 113 (by decide) (by unfold insE; rw [if_pos hJ, if_pos hp, if_pos hm]) (insertF t v M A l p R w h hl b hJ hp hm)
   ·have e1 : insE l M p R = 0 := by unfold insE; rw [if_pos hJ, if_pos hp, if_neg hm]
    have e2 : insL l M p R = putL l p.toNat R := if_pos e1
    rw [e1, e2]
    have := insertOk t v M A l p.toNat R w h hl b hM hJ (by omega) (by omega)
    rw [Int.toNat_of_nonneg hp.1] at this
    exact this
  ·exact no 112 (by decide) (by unfold insE; rw [if_pos hJ, if_neg hp]) (insertP t v M A l p R w h hl b hJ hp)
 ·exact no _ hJ (by unfold insE; rw [if_neg hJ]) (insertJ t v M A l p R w h hl b hJ)
theorem del_list (l : List Ru) (k : Nat) (hk : k < l.length) (X : List Ru) (hX : X = l.take k ++ ((l.take l.length).drop (k + 1)).take (l.length - k) ++ l.drop (k + (((l.take l.length).drop (k + 1)).take (l.length - k)).length)) :
  X.take (l.length - 1) = outL l k := by
 have e0 : l.take l.length = l := List.take_of_length_le (Nat.le_refl _)
 have e1 : (l.drop (k + 1)).take (l.length - k) = l.drop (k + 1) := List.take_of_length_le (by simp; omega)
 rw [e0, e1] at hX
 rw [hX]
 unfold outL
 have hl : (l.take k ++ l.drop (k + 1)).length = l.length - 1 := by simp; omega
 rw [← hl, List.take_left]
theorem RowU.less {w : World} {b g n cap : Nat} {l : List Ru} (h : RowU w b (.slice (.some ⟨g, 0, none⟩) n cap) l) (m : Nat) (hm : m ≤ n) : RowU w b (.slice (.some ⟨g, 0, none⟩) m cap) (l.take m) := by
 have hn : l.length = n := by
  rcases h.2 with ⟨hv, _⟩ | ⟨g', cap', cur, hv, _⟩
  ·cases hv
  ·cases hv; rfl
 have hlen : (l.take m).length = m := by rw [List.length_take]; omega
 rcases h.2 with ⟨hv, _⟩ | ⟨g', cap', cur, hv, hb, hg, hc, hmx, hs, ht⟩
 ·cases hv
 ·cases hv
  refine ⟨by rw [flatU_length], .inr ⟨g, cap, cur, by rw [hlen], hb, hg, by omega, hmx, hs, ?_⟩⟩
  rw [hlen, ← flatU_take, ← ht, List.take_take]
  congr 1
  omega
theorem Tab.set2 {w : World} {t : Nat} {v v' : Value} {M A : Int} {l l' : List Ru} (h : Tab w t v M A l) (hr : RowU w 0 v' l') (hne : v'.ownBlock ≠ some t) (hown : ∀ k, v'.ownBlock = some k → v.ownBlock = some k ∨ w.heap.size ≤ k) :
  Tab (w.setCell ⟨t, 2, none⟩ v') t v' M A l' ∧ Moved w (w.setCell ⟨t, 2, none⟩ v') t v v' := by
 refine ⟨⟨by have := blk_set h.1 (j := 2) v'; simpa using this, hr.put (fun e => hne e.symm) v', hne⟩, ⟨rfl, rfl, rfl, by simp, fun k hk ht _ => Below.heap_setCell _ _ _ _ ht, hown⟩⟩
set_option maxRecDepth 20000 in
set_option maxHeartbeats 8000000 in
theorem deleteOk (t : Nat) (v : Value) (M A : Int) (l : List Ru) (x : Int) (k : Nat) (w : World) (h : Tab w t v M A l) (hl : l.length ≤ 200000) (hf : fnd l x = (k : Int)) :
  Calls Tryz.prog 208 #[.pointer (some ⟨t, 0, none⟩), .int .i64 x] w fun e w' => e = .returned (.int .i64 0) ∧ ∃ v', Tab w' t v' M A (outL l k) ∧ Moved w w' t v v' := by
 have hF := findC t v M A l x w h hl
 rw [hf] at hF
 have hk : k < l.length := by rcases fnd_range l x with e | e <;> omega
 obtain ⟨g, cap, rfl, hcap, _, hgl⟩ := h.2.1.some (by omega)
 have HI : Hid (∀ X, X = l.take k ++ ((l.take l.length).drop (k + 1)).take (l.length - k) ++ l.drop (k + (((l.take l.length).drop (k + 1)).take (l.length - k)).length) → X.take (l.length - 1) = outL l k) := fun X hX => del_list l k hk X hX
 have hlt := h.lt
 have HT : Hid (Tab w t (.slice (some ⟨g, 0, none⟩) l.length cap) M A l) := h
 have hgt : t ≠ g := fun e => h.2.2 (by simp [Value.ownBlock, e])
 obtain ⟨n, hn⟩ : ∃ n, n = l.length := ⟨_, rfl⟩
 have Hn : Hid (n = l.length) := hn
 rw [← hn] at hl hk hcap HT HI ⊢
 clear h hn hf
 have hk0 : (0 : Int) ≤ (k : Int) := by omega
 have hn0 : (n : Int) ≤ 200000 := by omega
 have hwp : IntKind.i64.wrap ((k : Int) + 1) = (k : Int) + 1 := by rw [IntKind.wrap_i64]; omega
 go_enter Tryz.func208, Tryz.ntmps208
 go_wp2_with (fail)
 refine hF.mono ?_
 rintro e W1 ⟨rfl, hb1⟩
 have HT1 : Hid (Tab W1 t (.slice (some ⟨g, 0, none⟩) n cap) M A l) := HT.out.on hb1
 have HB1 : Hid (Below w.heap.size w W1) := hb1
 clear hb1 hF HT
 go_upto_region 6 with (fail)
 have HSr : Hid (SrcU W1.drew (cutU (some ⟨g, 0, none⟩) (k + 1) n cap) ((l.take n).drop (k + 1))) := SrcU.cut (HT1.out.drew.2.1.src) (k + 1) n (by omega) (by rw [Hn.out]; exact Nat.le_refl _)
 refine wp_region_held_drew (S := fun w' => w'.cell? ⟨t, 2, none⟩ = some (.slice (some ⟨g, 0, none⟩) n cap)) (by kernel_rfl) (blk3 HT1.out.1).2.2 (fun hS0 => ?_)
 show wpAnyH _ _ _ _ _ 14 _ _ _
 refine wpTk (i := 0) (v := .pointer (some ⟨t, 0, none⟩)) hS0 ?_
 simp only [nrm]
 refine wpTk (i := 1) (v := .pointer (some ⟨t, 0, none⟩)) hS0 ?_
 simp only [nrm]
 refine wpTk (i := 2) (v := .pointer (some ⟨t, 2, none⟩)) hS0 ?_
 simp only [nrm]
 refine wpAnyH_take (i := 3) (v := .slice (some ⟨g, 0, none⟩) n cap) rfl (by kernel_rfl) (by kernel_rfl) (by kernel_rfl) (fun _ _ _ h => h) (.inl ⟨rfl, fun w' hw' => by have hcc := hw'; simp [execOp, go_sem, hcc]⟩) hS0 ?_
 simp only [nrm]
 refine wpTk (i := 4) (v := .int .i64 k) hS0 ?_
 simp only [nrm]
 refine wpAnyH_take (i := 5) (v := cutU (some ⟨g, 0, none⟩) k n cap) rfl (by kernel_rfl) (by kernel_rfl) (by kernel_rfl) (fun _ _ _ h => h) (yieldsIf_slice rfl 56 (.tmp 16) (some (.tmp 17)) none none rfl _ (fun w => cut_l' w (some ⟨g, 0, none⟩) n cap k _ rfl (by omega))) hS0 ?_
 simp only [nrm]
 refine wpTk (i := 6) (v := .pointer (some ⟨t, 0, none⟩)) hS0 ?_
 simp only [nrm]
 refine wpTk (i := 7) (v := .pointer (some ⟨t, 0, none⟩)) hS0 ?_
 simp only [nrm]
 refine wpTk (i := 8) (v := .pointer (some ⟨t, 2, none⟩)) hS0 ?_
 simp only [nrm]
 refine wpAnyH_take (i := 9) (v := .slice (some ⟨g, 0, none⟩) n cap) rfl (by kernel_rfl) (by kernel_rfl) (by kernel_rfl) (fun _ _ _ h => h) (.inl ⟨rfl, fun w' hw' => by have hcc := hw'; simp [execOp, go_sem, hcc]⟩) hS0 ?_
 simp only [nrm]
 refine wpTk (i := 10) (v := .int .i64 k) hS0 ?_
 simp only [nrm]
 refine wpAnyH_take (i := 11) (v := .int .i64 ((k : Int) + 1)) rfl (by kernel_rfl) (by kernel_rfl) (by kernel_rfl) (fun _ _ _ h => h) (.inl ⟨rfl, fun _ _ => by simp [execOp, go_sem, hwp]⟩) hS0 ?_
 simp only [nrm]
 refine wpAnyH_take (i := 12) (v := cutU (some ⟨g, 0, none⟩) (k + 1) n cap) rfl (by kernel_rfl) (by kernel_rfl) (by kernel_rfl) (fun _ _ _ h => h) (yieldsIf_slice rfl 56 (.tmp 22) (some (.tmp 24)) none none rfl _ (fun w => cut_l' w (some ⟨g, 0, none⟩) n cap (k + 1) _ (by first | rfl | omega) (by omega))) hS0 ?_
 simp only [nrm]
 refine wpO 13 (fun K' hK' => ?_)
 refine wp_copyU (.tmp 18) (.tmp 25) rfl 0 g n cap l HT1.out.2.1 k (by omega) rfl _ _ rfl HSr.out (fun w5 hr5 hg5 => hK' _ _ ⟨?_, ?_⟩)
 ·exact (hg5.cell_far ⟨t, 2, none⟩ HT1.out.lt (by simpa using hgt)).trans (blk3 HT1.out.1).2.2
 refine wpAnyH_done (by kernel_rfl) ?_ _
 simp only [nrm]
 have HT5 : Hid (Tab w5 t (.slice (some ⟨g, 0, none⟩) n cap) M A _) := (Tab.grown rfl HT1.out.drew hr5 hg5).1
 have HM5 : Hid (Moved w w5 t (.slice (some ⟨g, 0, none⟩) n cap) (.slice (some ⟨g, 0, none⟩) n cap)) := Moved.start HB1.out hlt (Tab.grown rfl HT1.out.drew hr5 hg5).2.undrew
 clear hr5 hg5 hS0 HSr HT1 HB1 hK'
 go_upto_region 7 with (fail)
 obtain ⟨c0, c1, c2⟩ := blk3 HT5.out.1
 have f2 : w5.frozen? ⟨t, 2, none⟩ = false := blk_free HT5.out.1 2
 have i1 : (0 : Int) ≤ (n : Int) - 1 := by omega
 have i6 : (1 : Int) ≤ (n : Int) := by omega
 have i2 : (n : Int) - 1 ≤ (cap : Int) := by omega
 have i3 : ¬ cap = 0 := by omega
 have i4 : IntKind.i64.wrap ((n : Int) - 1) = (n : Int) - 1 := by rw [IntKind.wrap_i64]; omega
 have i5 : ((n : Int) - 1).toNat = n - 1 := by omega
 go_region
 go_wp2_with (fail)
 go_ret
 have HR6 := HT5.out.2.1.less (n - 1) (by omega)
 rw [HI.out _ rfl] at HR6
 have HT6 := Tab.set2 HT5.out.drew HR6 (fun e => hgt (by simpa [Value.ownBlock] using e.symm)) (fun k e => .inl e)
 exact ⟨rfl, .slice (some ⟨g, 0, none⟩) (n - 1) cap, HT6.1, HM5.out.trans HT6.2.undrew⟩
theorem deleteNo (t : Nat) (v : Value) (M A : Int) (l : List Ru) (x : Int) (w : World) (h : Tab w t v M A l) (hl : l.length ≤ 200000) (hf : fnd l x = -1) :
  Calls Tryz.prog 208 #[.pointer (some ⟨t, 0, none⟩), .int .i64 x] w fun e w' => e = .returned (.int .i64 114) ∧ Below w.heap.size w w' := by
 have hF := findC t v M A l x w h hl
 rw [hf] at hF
 clear h hf hl
 go_enter Tryz.func208, Tryz.ntmps208
 go_wp2_with (fail)
 refine hF.mono ?_
 rintro e W1 ⟨rfl, hb1⟩
 have HB1 : Hid (Below w.heap.size w W1) := hb1
 clear hb1 hF
 go_wp2_with (fail)
 go_ret
 exact ⟨rfl, HB1.out⟩
theorem deleteC (t : Nat) (v : Value) (M A : Int) (l : List Ru) (x : Int) (w : World) (h : Tab w t v M A l) (hl : l.length ≤ 200000) :
  Calls Tryz.prog 208 #[.pointer (some ⟨t, 0, none⟩), .int .i64 x] w fun e w' => e = .returned (.int .i64 (delE l x)) ∧ ∃ v', Tab w' t v' M A (delL l x) ∧ Moved w w' t v v' := by
 rcases fnd_range l x with e | e
 ·have e1 : delE l x = 114 := if_neg (by omega)
  have e2 : delL l x = l := if_neg (by omega)
  rw [e1, e2]
  exact (deleteNo t v M A l x w h hl e).mono fun e w' ⟨h1, h2⟩ => ⟨h1, v, h.on h2, Moved.of_below h2⟩
 ·have e1 : delE l x = 0 := if_pos e.1
  have e2 : delL l x = outL l (fnd l x).toNat := if_pos e.1
  rw [e1, e2]
  exact deleteOk t v M A l x (fnd l x).toNat w h hl (by omega)
end Go.Proofs.YtgokmkholjfhbaaGreat

