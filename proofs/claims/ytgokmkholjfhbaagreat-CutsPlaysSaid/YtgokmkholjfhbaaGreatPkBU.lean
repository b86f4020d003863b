/-
  PkBU: CtY, one behind the other (tools/pack.py).
-/
import Derived.Test.YtgokmkholjfhbaaGreatPkBO
import Derived.Test.YtgokmkholjfhbaaGreatPkBT
import Derived.Test.YtgokmkholjfhbaaGreatPkAE
set_option linter.unusedVariables false
set_option linter.unusedSimpArgs false
namespace Go.Proofs.YtgokmkholjfhbaaGreat
open Go.RowKit
theorem meth_Insert (p : Option Addr) (w : World) : (method 366 31 (.pointer p) "Insert").run Tryz.prog w = .ok (18, .pointer p) w := by kernel_rfl
theorem meth_Delete (p : Option Addr) (w : World) : (method 366 31 (.pointer p) "Delete").run Tryz.prog w = .ok (206, .pointer p) w := by kernel_rfl
theorem meth_Set (p : Option Addr) (w : World) : (method 366 31 (.pointer p) "Set").run Tryz.prog w = .ok (207, .pointer p) w := by kernel_rfl
theorem meth_Ask (p : Option Addr) (w : World) : (method 366 31 (.pointer p) "Ask").run Tryz.prog w = .ok (9, .pointer p) w := by kernel_rfl
theorem meth_Stats (p : Option Addr) (w : World) : (method 366 31 (.pointer p) "Stats").run Tryz.prog w = .ok (11, .pointer p) w := by kernel_rfl
set_option maxHeartbeats 4000000 in
set_option maxRecDepth 20000 in
theorem roomC (c : Cf) (l : List Ru) (u : Value) (E : Int) (w : World) (hs : SrcU w u l) (bd : ∀ R ∈ l, BdR R) :
  Calls Tryz.prog 26 #[.agg #[.func (.func 23) #[] #[], .func (.func 24) #[] #[], .int .i64 0, .func (.func 10) #[] #[]], .agg #[.int .i64 c.m, .int .i64 c.a, .int .i64 c.p, .int .i64 c.g, .int .i64 c.t, .int .i64 c.b, .int .i64 c.d], u, .int .i64 E] w fun e w' => e = .returned (.int .i64 E) ∧ Below w.heap.size w w' := by
 have hSi : ∀ W, Below w.heap.size w W → Calls Tryz.prog 23 #[u] W fun e w' => e = .returned (.int .i64 0) ∧ Below W.heap.size W w' := fun W hb => sizeK l u W (hs.keep hb) bd
 have hBu := fun W => budgetC c W
 obtain ⟨ad, cap, hu, hat⟩ := hs
 clear hat
 generalize l.length = m at *
 subst hu
 have HB0 : Hid (Below w.heap.size w ((w.alloc (.cells #[.func (.func 23) #[] #[], .func (.func 24) #[] #[], .int .i64 0, .func (.func 10) #[] #[]] 52)).alloc (.cells #[.int .i64 c.m, .int .i64 c.a, .int .i64 c.p, .int .i64 c.g, .int .i64 c.t, .int .i64 c.b, .int .i64 c.d] 24))) := ((Below.refl _ _).alloc (Nat.le_refl _) _).alloc (by simp) _
 have Kk : ((w.alloc (.cells #[.func (.func 23) #[] #[], .func (.func 24) #[] #[], .int .i64 0, .func (.func 10) #[] #[]] 52)).alloc (.cells #[.int .i64 c.m, .int .i64 c.a, .int .i64 c.p, .int .i64 c.g, .int .i64 c.t, .int .i64 c.b, .int .i64 c.d] 24)).heap[w.heap.size]? = some (.cells #[.func (.func 23) #[] #[], .func (.func 24) #[] #[], .int .i64 0, .func (.func 10) #[] #[]] 52 (0, 0)) := blk_alloc (blk_new w _) _
 have Kc : ((w.alloc (.cells #[.func (.func 23) #[] #[], .func (.func 24) #[] #[], .int .i64 0, .func (.func 10) #[] #[]] 52)).alloc (.cells #[.int .i64 c.m, .int .i64 c.a, .int .i64 c.p, .int .i64 c.g, .int .i64 c.t, .int .i64 c.b, .int .i64 c.d] 24)).heap[w.heap.size + 1]? = some (.cells #[.int .i64 c.m, .int .i64 c.a, .int .i64 c.p, .int .i64 c.g, .int .i64 c.t, .int .i64 c.b, .int .i64 c.d] 24 (0, 0)) := by
  have := blk_new (w.alloc (.cells #[.func (.func 23) #[] #[], .func (.func 24) #[] #[], .int .i64 0, .func (.func 10) #[] #[]] 52)) (.cells #[.int .i64 c.m, .int .i64 c.a, .int .i64 c.p, .int .i64 c.g, .int .i64 c.t, .int .i64 c.b, .int .i64 c.d] 24)
  simpa using this
 have Kk : Hid _ := Kk
 have Kc : Hid _ := Kc
 go_enter Tryz.func26, Tryz.ntmps26
 go_upto_region 1 with (fail)
 try simp only [World.size_alloc]
 generalize (w.alloc (.cells #[.func (.func 23) #[] #[], .func (.func 24) #[] #[], .int .i64 0, .func (.func 10) #[] #[]] 52)).alloc (.cells #[.int .i64 c.m, .int .i64 c.a, .int .i64 c.p, .int .i64 c.g, .int .i64 c.t, .int .i64 c.b, .int .i64 c.d] 24) = w0 at *
 obtain ⟨k0, k1, k2, k3⟩ := blk4 Kk.out
 obtain ⟨q0, q1, q2, q3, q4, q5, q6⟩ := blk7 Kc.out
 have lk := blk_lt Kk.out
 have lc := blk_lt Kc.out
 by_cases hE : E = 0
 ·subst hE
  have kne : Nonempty (Kin (w0)) := ⟨⟨_, Below.refl _ _⟩⟩
  have kc0 : ∀ y : Kin (w0), y.val.cell? ⟨w.heap.size, 0, none⟩ = some (.func (.func 23) #[] #[]) := kcL
  have kc1 : ∀ y : Kin (w0), y.val.cell? ⟨w.heap.size, 1, none⟩ = some (.func (.func 24) #[] #[]) := kcL
  have kc2 : ∀ y : Kin (w0), y.val.cell? ⟨w.heap.size, 2, none⟩ = some (.int .i64 0) := kcL
  have kc3 : ∀ y : Kin (w0), y.val.cell? ⟨w.heap.size, 3, none⟩ = some (.func (.func 10) #[] #[]) := kcL
  have kc4 : ∀ y : Kin (w0), y.val.cell? ⟨w.heap.size + 1, 0, none⟩ = some (.int .i64 c.m) := kcL
  have kc5 : ∀ y : Kin (w0), y.val.cell? ⟨w.heap.size + 1, 1, none⟩ = some (.int .i64 c.a) := kcL
  have kc6 : ∀ y : Kin (w0), y.val.cell? ⟨w.heap.size + 1, 2, none⟩ = some (.int .i64 c.p) := kcL
  have kc7 : ∀ y : Kin (w0), y.val.cell? ⟨w.heap.size + 1, 3, none⟩ = some (.int .i64 c.g) := kcL
  have kc8 : ∀ y : Kin (w0), y.val.cell? ⟨w.heap.size + 1, 4, none⟩ = some (.int .i64 c.t) := kcL
  have kc9 : ∀ y : Kin (w0), y.val.cell? ⟨w.heap.size + 1, 5, none⟩ = some (.int .i64 c.b) := kcL
  have kc10 : ∀ y : Kin (w0), y.val.cell? ⟨w.heap.size + 1, 6, none⟩ = some (.int .i64 c.d) := kcL
  refine wp_region_kin (w0) (Below.refl _ _) (by kernel_rfl) (by kernel_rfl) ?_
  repeat (go_big_quiet_step (first | (go_at_call 23; exact kin_call (hSi _ (HB0.out.trans (Below.mono (Kin.is _) HB0.out.size)))) | (go_at_call 24; exact kin_call (hBu _))))
  refine wpQuiet_nil ?_
  rintro wq ⟨⟨xq, hxq⟩, hyq⟩
  have hq : Below (w0).heap.size (w0) wq := by rw [hyq]; exact hxq
  clear hyq hxq xq
  clear kne kc0 kc1 kc2 kc3 kc4 kc5 kc6 kc7 kc8 kc9 kc10
  obtain ⟨hcq, hfq⟩ := bcell hq
  have hzq := hq.size
  try simp at hzq
  have HBq : Hid (Below w.heap.size w wq) := HB0.out.trans (hq.mono HB0.out.size)
  go_wp2_with (fail)
  go_ret
  exact ⟨rfl, HBq.out⟩
 ·have hE' : (E == 0) = false := by simpa using hE
  have kne : Nonempty (Kin (w0)) := ⟨⟨_, Below.refl _ _⟩⟩
  have kc0 : ∀ y : Kin (w0), y.val.cell? ⟨w.heap.size, 0, none⟩ = some (.func (.func 23) #[] #[]) := kcL
  have kc1 : ∀ y : Kin (w0), y.val.cell? ⟨w.heap.size, 1, none⟩ = some (.func (.func 24) #[] #[]) := kcL
  have kc2 : ∀ y : Kin (w0), y.val.cell? ⟨w.heap.size, 2, none⟩ = some (.int .i64 0) := kcL
  have kc3 : ∀ y : Kin (w0), y.val.cell? ⟨w.heap.size, 3, none⟩ = some (.func (.func 10) #[] #[]) := kcL
  have kc4 : ∀ y : Kin (w0), y.val.cell? ⟨w.heap.size + 1, 0, none⟩ = some (.int .i64 c.m) := kcL
  have kc5 : ∀ y : Kin (w0), y.val.cell? ⟨w.heap.size + 1, 1, none⟩ = some (.int .i64 c.a) := kcL
  have kc6 : ∀ y : Kin (w0), y.val.cell? ⟨w.heap.size + 1, 2, none⟩ = some (.int .i64 c.p) := kcL
  have kc7 : ∀ y : Kin (w0), y.val.cell? ⟨w.heap.size + 1, 3, none⟩ = some (.int .i64 c.g) := kcL
  have kc8 : ∀ y : Kin (w0), y.val.cell? ⟨w.heap.size + 1, 4, none⟩ = some (.int .i64 c.t) := kcL
  have kc9 : ∀ y : Kin (w0), y.val.cell? ⟨w.heap.size + 1, 5, none⟩ = some (.int .i64 c.b) := kcL
  have kc10 : ∀ y : Kin (w0), y.val.cell? ⟨w.heap.size + 1, 6, none⟩ = some (.int .i64 c.d) := kcL
  refine wp_region_kin (w0) (Below.refl _ _) (by kernel_rfl) (by kernel_rfl) ?_
  repeat (go_big_quiet_step (first | (go_at_call 23; exact kin_call (hSi _ (HB0.out.trans (Below.mono (Kin.is _) HB0.out.size)))) | (go_at_call 24; exact kin_call (hBu _))))
  refine wpQuiet_nil ?_
  rintro wq ⟨⟨xq, hxq⟩, hyq⟩
  have hq : Below (w0).heap.size (w0) wq := by rw [hyq]; exact hxq
  clear hyq hxq xq
  clear kne kc0 kc1 kc2 kc3 kc4 kc5 kc6 kc7 kc8 kc9 kc10
  obtain ⟨hcq, hfq⟩ := bcell hq
  have hzq := hq.size
  try simp at hzq
  have HBq : Hid (Below w.heap.size w wq) := HB0.out.trans (hq.mono HB0.out.size)
  go_wp2_with (fail)
  go_ret
  exact ⟨rfl, HBq.out⟩
set_option maxHeartbeats 8000000 in
set_option maxRecDepth 20000 in
theorem askedC (X : Nat) (c : Cf) (l : List Ru) (S : Nat → Prop) (u : Value) (h : Hd) (w : World) (hE : Eng w X c l S) (hs : SrcU w u l) (oh : OkH h) :
  Calls Tryz.prog 32 #[.agg #[.func (.func 23) #[] #[], .func (.func 24) #[] #[], .int .i64 0, .func (.func 10) #[] #[]], .iface 31 (.pointer (some ⟨X, 0, none⟩)), .agg #[.int .i64 c.m, .int .i64 c.a, .int .i64 c.p, .int .i64 c.g, .int .i64 c.t, .int .i64 c.b, .int .i64 c.d], u, .agg #[.int .u32 h.s, .int .u32 h.d, .int .u16 h.p, .int .u16 h.q, .int .u8 h.r]] w fun e w' => e = .returned (.bool true) ∧ Below w.heap.size w w' := by
 have hfi := hE.fits oh
 have hfew := hE.ok.few
 have hMa : ∀ W, Below w.heap.size w W → Calls Tryz.prog 43 #[u, .int .i64 c.a, .agg #[.int .u32 h.s, .int .u32 h.d, .int .u16 h.p, .int .u16 h.q, .int .u8 h.r]] W fun e w' => e = .returned (.tuple #[.agg #[.bool (vdH (mat l h)), .int .i64 (vdI l (mat l h)), .int .i64 (vdA c.a l (mat l h))], .int .i64 (mat l h)]) ∧ Below W.heap.size W w' := fun W hb => rmatchL u l c.a h W (hs.keep hb) (by omega) (fun k hk => hE.bd _ (List.getElem_mem hk)) oh
 have hAsk : ∀ W, Below w.heap.size w W → Calls Tryz.prog 9 #[.pointer (some ⟨X, 0, none⟩), .agg #[.int .u32 h.s, .int .u32 h.d, .int .u16 h.p, .int .u16 h.q, .int .u8 h.r]] W fun e w' => e = .returned (.tuple #[vdV c l h, stV c l h]) ∧ Below W.heap.size W w' := fun W hb => askE X c l S h W (hE.on hb) oh
 have hSta : ∀ W, Below w.heap.size w W → Calls Tryz.prog 11 #[.pointer (some ⟨X, 0, none⟩)] W fun e w' => e = .returned (saV c l) ∧ Below W.heap.size W w' := fun W hb => statsE X c l S W (hE.on hb)
 have hFi : ∀ W, Below w.heap.size w W → Calls Tryz.prog 10 #[.agg #[.int .i64 c.m, .int .i64 c.a, .int .i64 c.p, .int .i64 c.g, .int .i64 c.t, .int .i64 c.b, .int .i64 c.d], u, .agg #[.int .u32 h.s, .int .u32 h.d, .int .u16 h.p, .int .u16 h.q, .int .u8 h.r], .agg #[.bool (vdH (mat l h)), .int .i64 (vdI l (mat l h)), .int .i64 (vdA c.a l (mat l h))], .agg #[.int .i64 ((dpK c l h : Nat) + 1), .int .i64 (rlK c l h : Nat), .int .i64 (dpK c l h : Nat), .int .i64 0, .int .i64 0], .agg #[.int .i64 ((szT c.b.toNat c.d.toNat (rootP l)).1 : Nat), .int .i64 ((szT c.b.toNat c.d.toNat (rootP l)).2 : Nat), .int .i64 0, .int .i64 0]] W fun e w' => e = .returned (.bool true) ∧ Below W.heap.size W w' := fun W hb => fitsC c l u h _ _ _ _ _ _ _ W (srcU_form hs) hE.cf hfi.1 hfi.2.1 hfi.2.2.1 hfew hfi.2.2.2.1 hfi.2.2.2.2.1 hfi.2.2.2.2.2
 unfold vdV stV at hAsk
 unfold saV at hSta
 obtain ⟨ad, cap, hu, hat⟩ := hs
 clear hat hfi
 generalize dpK c l h = K at *
 generalize rlK c l h = C at *
 generalize vdH (mat l h) = vb at *
 generalize vdI l (mat l h) = vi at *
 generalize vdA c.a l (mat l h) = va at *
 generalize mat l h = mt at *
 generalize (szT c.b.toNat c.d.toNat (rootP l)).2 = T at *
 generalize (szT c.b.toNat c.d.toNat (rootP l)).1 = n at *
 obtain ⟨m, hm⟩ : ∃ m, m = l.length := ⟨_, rfl⟩
 rw [← hm] at hu
 subst hu
 clear hm hE hfew
 have m1 := meth_Ask (some ⟨X, 0, none⟩)
 have m2 := meth_Stats (some ⟨X, 0, none⟩)
 have Kk_0 : Hid ((((w.alloc (.cells #[.func (.func 23) #[] #[], .func (.func 24) #[] #[], .int .i64 0, .func (.func 10) #[] #[]] 52)).alloc (.cells #[.int .i64 c.m, .int .i64 c.a, .int .i64 c.p, .int .i64 c.g, .int .i64 c.t, .int .i64 c.b, .int .i64 c.d] 24)).alloc (.cells #[.int .u32 h.s, .int .u32 h.d, .int .u16 h.p, .int .u16 h.q, .int .u8 h.r] 28)).heap[w.heap.size]? = some (.cells #[.func (.func 23) #[] #[], .func (.func 24) #[] #[], .int .i64 0, .func (.func 10) #[] #[]] 52 (0, 0))) := blk_alloc (blk_alloc (blk_new w _) _) _
 have Kc_0 : Hid ((((w.alloc (.cells #[.func (.func 23) #[] #[], .func (.func 24) #[] #[], .int .i64 0, .func (.func 10) #[] #[]] 52)).alloc (.cells #[.int .i64 c.m, .int .i64 c.a, .int .i64 c.p, .int .i64 c.g, .int .i64 c.t, .int .i64 c.b, .int .i64 c.d] 24)).alloc (.cells #[.int .u32 h.s, .int .u32 h.d, .int .u16 h.p, .int .u16 h.q, .int .u8 h.r] 28)).heap[w.heap.size + 1]? = some (.cells #[.int .i64 c.m, .int .i64 c.a, .int .i64 c.p, .int .i64 c.g, .int .i64 c.t, .int .i64 c.b, .int .i64 c.d] 24 (0, 0))) := by
  have := blk_alloc (blk_new (w.alloc (.cells #[.func (.func 23) #[] #[], .func (.func 24) #[] #[], .int .i64 0, .func (.func 10) #[] #[]] 52)) (.cells #[.int .i64 c.m, .int .i64 c.a, .int .i64 c.p, .int .i64 c.g, .int .i64 c.t, .int .i64 c.b, .int .i64 c.d] 24)) (.cells #[.int .u32 h.s, .int .u32 h.d, .int .u16 h.p, .int .u16 h.q, .int .u8 h.r] 28)
  show _ = _
  simpa using this
 have Kh_0 : Hid ((((w.alloc (.cells #[.func (.func 23) #[] #[], .func (.func 24) #[] #[], .int .i64 0, .func (.func 10) #[] #[]] 52)).alloc (.cells #[.int .i64 c.m, .int .i64 c.a, .int .i64 c.p, .int .i64 c.g, .int .i64 c.t, .int .i64 c.b, .int .i64 c.d] 24)).alloc (.cells #[.int .u32 h.s, .int .u32 h.d, .int .u16 h.p, .int .u16 h.q, .int .u8 h.r] 28)).heap[w.heap.size + 1 + 1]? = some (.cells #[.int .u32 h.s, .int .u32 h.d, .int .u16 h.p, .int .u16 h.q, .int .u8 h.r] 28 (0, 0))) := by
  have := blk_new ((w.alloc (.cells #[.func (.func 23) #[] #[], .func (.func 24) #[] #[], .int .i64 0, .func (.func 10) #[] #[]] 52)).alloc (.cells #[.int .i64 c.m, .int .i64 c.a, .int .i64 c.p, .int .i64 c.g, .int .i64 c.t, .int .i64 c.b, .int .i64 c.d] 24)) (.cells #[.int .u32 h.s, .int .u32 h.d, .int .u16 h.p, .int .u16 h.q, .int .u8 h.r] 28)
  show _ = _
  simpa using this
 have HB_0 : Hid (Below w.heap.size w (((w.alloc (.cells #[.func (.func 23) #[] #[], .func (.func 24) #[] #[], .int .i64 0, .func (.func 10) #[] #[]] 52)).alloc (.cells #[.int .i64 c.m, .int .i64 c.a, .int .i64 c.p, .int .i64 c.g, .int .i64 c.t, .int .i64 c.b, .int .i64 c.d] 24)).alloc (.cells #[.int .u32 h.s, .int .u32 h.d, .int .u16 h.p, .int .u16 h.q, .int .u8 h.r] 28))) := (((Below.refl _ _).alloc (Nat.le_refl _) _).alloc (by simp) _).alloc (by simp; omega) _
 go_enter Tryz.func32, Tryz.ntmps32
 go_upto_region 1 with (fail)
 try simp only [World.size_alloc]
 generalize ((w.alloc (.cells #[.func (.func 23) #[] #[], .func (.func 24) #[] #[], .int .i64 0, .func (.func 10) #[] #[]] 52)).alloc (.cells #[.int .i64 c.m, .int .i64 c.a, .int .i64 c.p, .int .i64 c.g, .int .i64 c.t, .int .i64 c.b, .int .i64 c.d] 24)).alloc (.cells #[.int .u32 h.s, .int .u32 h.d, .int .u16 h.p, .int .u16 h.q, .int .u8 h.r] 28) = U0 at *
 obtain ⟨q0, q1, q2, q3, q4, q5, q6⟩ := blk7 Kc_0.out
 obtain ⟨z0, z1, z2, z3, z4⟩ := blk5 Kh_0.out
 go_wp2_with (go_at_call 43; fail)
 refine (hMa _ HB_0.out).mono ?_
 rintro e U1 ⟨rfl, hb⟩
 have HB_1 : Hid (Below w.heap.size w U1) := HB_0.out.trans (Below.mono (hb) HB_0.out.size)
 have Kk_1 : Hid (U1.heap[w.heap.size]? = some (.cells #[.func (.func 23) #[] #[], .func (.func 24) #[] #[], .int .i64 0, .func (.func 10) #[] #[]] 52 (0, 0))) := blk_on Kk_0.out (hb)
 have Kc_1 : Hid (U1.heap[w.heap.size + 1]? = some (.cells #[.int .i64 c.m, .int .i64 c.a, .int .i64 c.p, .int .i64 c.g, .int .i64 c.t, .int .i64 c.b, .int .i64 c.d] 24 (0, 0))) := blk_on Kc_0.out (hb)
 have Kh_1 : Hid (U1.heap[w.heap.size + 1 + 1]? = some (.cells #[.int .u32 h.s, .int .u32 h.d, .int .u16 h.p, .int .u16 h.q, .int .u8 h.r] 28 (0, 0))) := blk_on Kh_0.out (hb)
 clear HB_0 Kk_0 Kc_0 Kh_0 
 clear hb q0 q1 q2 q3 q4 q5 q6 z0 z1 z2 z3 z4
 go_upto_region 2 with (fail)
 try simp only [World.size_alloc]
 obtain ⟨U2, hUU⟩ : ∃ U, U = (U1.alloc (.cells #[.bool vb, .int .i64 vi, .int .i64 va] 36)) := ⟨_, rfl⟩
 have hbU : Below U1.heap.size U1 U2 := by rw [hUU]; exact (Below.alloc (Below.refl _ _) (Nat.le_refl _) _)
 have Ka_n : U2.heap[U1.heap.size]? = some (.cells #[.bool vb, .int .i64 vi, .int .i64 va] 36 (0, 0)) := by have := blk_new U1 (.cells #[.bool vb, .int .i64 vi, .int .i64 va] 36); rw [← hUU] at this; simpa using this
 rw [← hUU]
 clear hUU
 have HB_2 : Hid (Below w.heap.size w U2) := HB_1.out.trans (Below.mono (hbU) HB_1.out.size)
 have Kk_2 : Hid (U2.heap[w.heap.size]? = some (.cells #[.func (.func 23) #[] #[], .func (.func 24) #[] #[], .int .i64 0, .func (.func 10) #[] #[]] 52 (0, 0))) := blk_on Kk_1.out (hbU)
 have Kc_2 : Hid (U2.heap[w.heap.size + 1]? = some (.cells #[.int .i64 c.m, .int .i64 c.a, .int .i64 c.p, .int .i64 c.g, .int .i64 c.t, .int .i64 c.b, .int .i64 c.d] 24 (0, 0))) := blk_on Kc_1.out (hbU)
 have Kh_2 : Hid (U2.heap[w.heap.size + 1 + 1]? = some (.cells #[.int .u32 h.s, .int .u32 h.d, .int .u16 h.p, .int .u16 h.q, .int .u8 h.r] 28 (0, 0))) := blk_on Kh_1.out (hbU)
 clear HB_1 Kk_1 Kc_1 Kh_1 
 have Ka_2 : Hid (U2.heap[U1.heap.size]? = some (.cells #[.bool vb, .int .i64 vi, .int .i64 va] 36 (0, 0))) := Ka_n
 clear Ka_n
 obtain ⟨Ba, hBa⟩ : ∃ B, B = U1.heap.size := ⟨_, rfl⟩
 rw [← hBa] at Ka_2 ⊢
 clear hbU hBa
 obtain ⟨z0, z1, z2, z3, z4⟩ := blk5 Kh_2.out
 go_wp2_with (go_at_call 9; fail)
 refine (hAsk _ HB_2.out).mono ?_
 rintro e U3 ⟨rfl, hb⟩
 have HB_3 : Hid (Below w.heap.size w U3) := HB_2.out.trans (Below.mono (hb) HB_2.out.size)
 have Kk_3 : Hid (U3.heap[w.heap.size]? = some (.cells #[.func (.func 23) #[] #[], .func (.func 24) #[] #[], .int .i64 0, .func (.func 10) #[] #[]] 52 (0, 0))) := blk_on Kk_2.out (hb)
 have Kc_3 : Hid (U3.heap[w.heap.size + 1]? = some (.cells #[.int .i64 c.m, .int .i64 c.a, .int .i64 c.p, .int .i64 c.g, .int .i64 c.t, .int .i64 c.b, .int .i64 c.d] 24 (0, 0))) := blk_on Kc_2.out (hb)
 have Kh_3 : Hid (U3.heap[w.heap.size + 1 + 1]? = some (.cells #[.int .u32 h.s, .int .u32 h.d, .int .u16 h.p, .int .u16 h.q, .int .u8 h.r] 28 (0, 0))) := blk_on Kh_2.out (hb)
 have Ka_3 : Hid (U3.heap[Ba]? = some (.cells #[.bool vb, .int .i64 vi, .int .i64 va] 36 (0, 0))) := blk_on Ka_2.out (hb)
 clear HB_2 Kk_2 Kc_2 Kh_2 Ka_2 
 clear hb z0 z1 z2 z3 z4
 go_upto_region 3 with (fail)
 try simp only [World.size_alloc]
 obtain ⟨U4, hUU⟩ : ∃ U, U = ((U3.alloc (.cells #[.bool vb, .int .i64 vi, .int .i64 va] 36)).alloc (.cells #[.int .i64 ((K : Int) + 1), .int .i64 C, .int .i64 K, .int .i64 0, .int .i64 0] 38)) := ⟨_, rfl⟩
 have hbU : Below U3.heap.size U3 U4 := by rw [hUU]; exact (Below.alloc (Below.alloc (Below.refl _ _) (Nat.le_refl _) _) (by simp <;> omega) _)
 have Kv_n : U4.heap[U3.heap.size]? = some (.cells #[.bool vb, .int .i64 vi, .int .i64 va] 36 (0, 0)) := by have := blk_alloc (blk_new U3 (.cells #[.bool vb, .int .i64 vi, .int .i64 va] 36)) (.cells #[.int .i64 ((K : Int) + 1), .int .i64 C, .int .i64 K, .int .i64 0, .int .i64 0] 38); rw [← hUU] at this; simpa using this
 have Ks_n : U4.heap[U3.heap.size + 1]? = some (.cells #[.int .i64 ((K : Int) + 1), .int .i64 C, .int .i64 K, .int .i64 0, .int .i64 0] 38 (0, 0)) := by have := blk_new (U3.alloc (.cells #[.bool vb, .int .i64 vi, .int .i64 va] 36)) (.cells #[.int .i64 ((K : Int) + 1), .int .i64 C, .int .i64 K, .int .i64 0, .int .i64 0] 38); rw [← hUU] at this; simpa using this
 rw [← hUU]
 clear hUU
 have HB_4 : Hid (Below w.heap.size w U4) := HB_3.out.trans (Below.mono (hbU) HB_3.out.size)
 have Kk_4 : Hid (U4.heap[w.heap.size]? = some (.cells #[.func (.func 23) #[] #[], .func (.func 24) #[] #[], .int .i64 0, .func (.func 10) #[] #[]] 52 (0, 0))) := blk_on Kk_3.out (hbU)
 have Kc_4 : Hid (U4.heap[w.heap.size + 1]? = some (.cells #[.int .i64 c.m, .int .i64 c.a, .int .i64 c.p, .int .i64 c.g, .int .i64 c.t, .int .i64 c.b, .int .i64 c.d] 24 (0, 0))) := blk_on Kc_3.out (hbU)
 have Kh_4 : Hid (U4.heap[w.heap.size + 1 + 1]? = some (.cells #[.int .u32 h.s, .int .u32 h.d, .int .u16 h.p, .int .u16 h.q, .int .u8 h.r] 28 (0, 0))) := blk_on Kh_3.out (hbU)
 have Ka_4 : Hid (U4.heap[Ba]? = some (.cells #[.bool vb, .int .i64 vi, .int .i64 va] 36 (0, 0))) := blk_on Ka_3.out (hbU)
 clear HB_3 Kk_3 Kc_3 Kh_3 Ka_3 
 have Kv_4 : Hid (U4.heap[U3.heap.size]? = some (.cells #[.bool vb, .int .i64 vi, .int .i64 va] 36 (0, 0))) := Kv_n
 clear Kv_n
 have Ks_4 : Hid (U4.heap[U3.heap.size + 1]? = some (.cells #[.int .i64 ((K : Int) + 1), .int .i64 C, .int .i64 K, .int .i64 0, .int .i64 0] 38 (0, 0))) := Ks_n
 clear Ks_n
 obtain ⟨Bs, hBs⟩ : ∃ B, B = U3.heap.size + 1 := ⟨_, rfl⟩
 rw [← hBs] at Ks_4 ⊢
 obtain ⟨Bv, hBv⟩ : ∃ B, B = U3.heap.size := ⟨_, rfl⟩
 rw [← hBv] at Kv_4 ⊢
 clear hbU hBv hBs
 go_wp2_with (go_at_call 11; fail)
 refine (hSta _ HB_4.out).mono ?_
 rintro e U5 ⟨rfl, hb⟩
 have HB_5 : Hid (Below w.heap.size w U5) := HB_4.out.trans (Below.mono (hb) HB_4.out.size)
 have Kk_5 : Hid (U5.heap[w.heap.size]? = some (.cells #[.func (.func 23) #[] #[], .func (.func 24) #[] #[], .int .i64 0, .func (.func 10) #[] #[]] 52 (0, 0))) := blk_on Kk_4.out (hb)
 have Kc_5 : Hid (U5.heap[w.heap.size + 1]? = some (.cells #[.int .i64 c.m, .int .i64 c.a, .int .i64 c.p, .int .i64 c.g, .int .i64 c.t, .int .i64 c.b, .int .i64 c.d] 24 (0, 0))) := blk_on Kc_4.out (hb)
 have Kh_5 : Hid (U5.heap[w.heap.size + 1 + 1]? = some (.cells #[.int .u32 h.s, .int .u32 h.d, .int .u16 h.p, .int .u16 h.q, .int .u8 h.r] 28 (0, 0))) := blk_on Kh_4.out (hb)
 have Ka_5 : Hid (U5.heap[Ba]? = some (.cells #[.bool vb, .int .i64 vi, .int .i64 va] 36 (0, 0))) := blk_on Ka_4.out (hb)
 have Ks_5 : Hid (U5.heap[Bs]? = some (.cells #[.int .i64 ((K : Int) + 1), .int .i64 C, .int .i64 K, .int .i64 0, .int .i64 0] 38 (0, 0))) := blk_on Ks_4.out (hb)
 have Kv_5 : Hid (U5.heap[Bv]? = some (.cells #[.bool vb, .int .i64 vi, .int .i64 va] 36 (0, 0))) := blk_on Kv_4.out (hb)
 clear HB_4 Kk_4 Kc_4 Kh_4 Ka_4 Ks_4 Kv_4 
 clear hb
 go_upto_region 4 with (fail)
 try simp only [World.size_alloc]
 obtain ⟨U6, hUU⟩ : ∃ U, U = (U5.alloc (.cells #[.int .i64 n, .int .i64 T, .int .i64 0, .int .i64 0] 43)) := ⟨_, rfl⟩
 have hbU : Below U5.heap.size U5 U6 := by rw [hUU]; exact (Below.alloc (Below.refl _ _) (Nat.le_refl _) _)
 have Kt_n : U6.heap[U5.heap.size]? = some (.cells #[.int .i64 n, .int .i64 T, .int .i64 0, .int .i64 0] 43 (0, 0)) := by have := blk_new U5 (.cells #[.int .i64 n, .int .i64 T, .int .i64 0, .int .i64 0] 43); rw [← hUU] at this; simpa using this
 rw [← hUU]
 clear hUU
 have HB_6 : Hid (Below w.heap.size w U6) := HB_5.out.trans (Below.mono (hbU) HB_5.out.size)
 have Kk_6 : Hid (U6.heap[w.heap.size]? = some (.cells #[.func (.func 23) #[] #[], .func (.func 24) #[] #[], .int .i64 0, .func (.func 10) #[] #[]] 52 (0, 0))) := blk_on Kk_5.out (hbU)
 have Kc_6 : Hid (U6.heap[w.heap.size + 1]? = some (.cells #[.int .i64 c.m, .int .i64 c.a, .int .i64 c.p, .int .i64 c.g, .int .i64 c.t, .int .i64 c.b, .int .i64 c.d] 24 (0, 0))) := blk_on Kc_5.out (hbU)
 have Kh_6 : Hid (U6.heap[w.heap.size + 1 + 1]? = some (.cells #[.int .u32 h.s, .int .u32 h.d, .int .u16 h.p, .int .u16 h.q, .int .u8 h.r] 28 (0, 0))) := blk_on Kh_5.out (hbU)
 have Ka_6 : Hid (U6.heap[Ba]? = some (.cells #[.bool vb, .int .i64 vi, .int .i64 va] 36 (0, 0))) := blk_on Ka_5.out (hbU)
 have Ks_6 : Hid (U6.heap[Bs]? = some (.cells #[.int .i64 ((K : Int) + 1), .int .i64 C, .int .i64 K, .int .i64 0, .int .i64 0] 38 (0, 0))) := blk_on Ks_5.out (hbU)
 have Kv_6 : Hid (U6.heap[Bv]? = some (.cells #[.bool vb, .int .i64 vi, .int .i64 va] 36 (0, 0))) := blk_on Kv_5.out (hbU)
 clear HB_5 Kk_5 Kc_5 Kh_5 Ka_5 Ks_5 Kv_5 
 have Kt_6 : Hid (U6.heap[U5.heap.size]? = some (.cells #[.int .i64 n, .int .i64 T, .int .i64 0, .int .i64 0] 43 (0, 0))) := Kt_n
 clear Kt_n
 obtain ⟨Bt, hBt⟩ : ∃ B, B = U5.heap.size := ⟨_, rfl⟩
 rw [← hBt] at Kt_6 ⊢
 clear hbU hBt
 obtain ⟨z0, z1, z2, z3, z4⟩ := blk5 Kh_6.out
 go_wp2_with (go_at_call 9; fail)
 refine (hAsk _ HB_6.out).mono ?_
 rintro e U7 ⟨rfl, hb⟩
 have HB_7 : Hid (Below w.heap.size w U7) := HB_6.out.trans (Below.mono (hb) HB_6.out.size)
 have Kk_7 : Hid (U7.heap[w.heap.size]? = some (.cells #[.func (.func 23) #[] #[], .func (.func 24) #[] #[], .int .i64 0, .func (.func 10) #[] #[]] 52 (0, 0))) := blk_on Kk_6.out (hb)
 have Kc_7 : Hid (U7.heap[w.heap.size + 1]? = some (.cells #[.int .i64 c.m, .int .i64 c.a, .int .i64 c.p, .int .i64 c.g, .int .i64 c.t, .int .i64 c.b, .int .i64 c.d] 24 (0, 0))) := blk_on Kc_6.out (hb)
 have Kh_7 : Hid (U7.heap[w.heap.size + 1 + 1]? = some (.cells #[.int .u32 h.s, .int .u32 h.d, .int .u16 h.p, .int .u16 h.q, .int .u8 h.r] 28 (0, 0))) := blk_on Kh_6.out (hb)
 have Ka_7 : Hid (U7.heap[Ba]? = some (.cells #[.bool vb, .int .i64 vi, .int .i64 va] 36 (0, 0))) := blk_on Ka_6.out (hb)
 have Ks_7 : Hid (U7.heap[Bs]? = some (.cells #[.int .i64 ((K : Int) + 1), .int .i64 C, .int .i64 K, .int .i64 0, .int .i64 0] 38 (0, 0))) := blk_on Ks_6.out (hb)
 have Kv_7 : Hid (U7.heap[Bv]? = some (.cells #[.bool vb, .int .i64 vi, .int .i64 va] 36 (0, 0))) := blk_on Kv_6.out (hb)
 have Kt_7 : Hid (U7.heap[Bt]? = some (.cells #[.int .i64 n, .int .i64 T, .int .i64 0, .int .i64 0] 43 (0, 0))) := blk_on Kt_6.out (hb)
 clear HB_6 Kk_6 Kc_6 Kh_6 Ka_6 Ks_6 Kv_6 Kt_6 
 clear hb z0 z1 z2 z3 z4
 go_upto_region 5 with (fail)
 try simp only [World.size_alloc]
 obtain ⟨U8, hUU⟩ : ∃ U, U = ((U7.alloc (.cells #[.bool vb, .int .i64 vi, .int .i64 va] 36)).alloc (.cells #[.int .i64 ((K : Int) + 1), .int .i64 C, .int .i64 K, .int .i64 0, .int .i64 0] 38)) := ⟨_, rfl⟩
 have hbU : Below U7.heap.size U7 U8 := by rw [hUU]; exact (Below.alloc (Below.alloc (Below.refl _ _) (Nat.le_refl _) _) (by simp <;> omega) _)
 have Kp_n : U8.heap[U7.heap.size]? = some (.cells #[.bool vb, .int .i64 vi, .int .i64 va] 36 (0, 0)) := by have := blk_alloc (blk_new U7 (.cells #[.bool vb, .int .i64 vi, .int .i64 va] 36)) (.cells #[.int .i64 ((K : Int) + 1), .int .i64 C, .int .i64 K, .int .i64 0, .int .i64 0] 38); rw [← hUU] at this; simpa using this
 have Kq_n : U8.heap[U7.heap.size + 1]? = some (.cells #[.int .i64 ((K : Int) + 1), .int .i64 C, .int .i64 K, .int .i64 0, .int .i64 0] 38 (0, 0)) := by have := blk_new (U7.alloc (.cells #[.bool vb, .int .i64 vi, .int .i64 va] 36)) (.cells #[.int .i64 ((K : Int) + 1), .int .i64 C, .int .i64 K, .int .i64 0, .int .i64 0] 38); rw [← hUU] at this; simpa using this
 rw [← hUU]
 clear hUU
 have HB_8 : Hid (Below w.heap.size w U8) := HB_7.out.trans (Below.mono (hbU) HB_7.out.size)
 have Kk_8 : Hid (U8.heap[w.heap.size]? = some (.cells #[.func (.func 23) #[] #[], .func (.func 24) #[] #[], .int .i64 0, .func (.func 10) #[] #[]] 52 (0, 0))) := blk_on Kk_7.out (hbU)
 have Kc_8 : Hid (U8.heap[w.heap.size + 1]? = some (.cells #[.int .i64 c.m, .int .i64 c.a, .int .i64 c.p, .int .i64 c.g, .int .i64 c.t, .int .i64 c.b, .int .i64 c.d] 24 (0, 0))) := blk_on Kc_7.out (hbU)
 have Kh_8 : Hid (U8.heap[w.heap.size + 1 + 1]? = some (.cells #[.int .u32 h.s, .int .u32 h.d, .int .u16 h.p, .int .u16 h.q, .int .u8 h.r] 28 (0, 0))) := blk_on Kh_7.out (hbU)
 have Ka_8 : Hid (U8.heap[Ba]? = some (.cells #[.bool vb, .int .i64 vi, .int .i64 va] 36 (0, 0))) := blk_on Ka_7.out (hbU)
 have Ks_8 : Hid (U8.heap[Bs]? = some (.cells #[.int .i64 ((K : Int) + 1), .int .i64 C, .int .i64 K, .int .i64 0, .int .i64 0] 38 (0, 0))) := blk_on Ks_7.out (hbU)
 have Kv_8 : Hid (U8.heap[Bv]? = some (.cells #[.bool vb, .int .i64 vi, .int .i64 va] 36 (0, 0))) := blk_on Kv_7.out (hbU)
 have Kt_8 : Hid (U8.heap[Bt]? = some (.cells #[.int .i64 n, .int .i64 T, .int .i64 0, .int .i64 0] 43 (0, 0))) := blk_on Kt_7.out (hbU)
 clear HB_7 Kk_7 Kc_7 Kh_7 Ka_7 Ks_7 Kv_7 Kt_7 
 have Kp_8 : Hid (U8.heap[U7.heap.size]? = some (.cells #[.bool vb, .int .i64 vi, .int .i64 va] 36 (0, 0))) := Kp_n
 clear Kp_n
 have Kq_8 : Hid (U8.heap[U7.heap.size + 1]? = some (.cells #[.int .i64 ((K : Int) + 1), .int .i64 C, .int .i64 K, .int .i64 0, .int .i64 0] 38 (0, 0))) := Kq_n
 clear Kq_n
 obtain ⟨Bq, hBq⟩ : ∃ B, B = U7.heap.size + 1 := ⟨_, rfl⟩
 rw [← hBq] at Kq_8 ⊢
 obtain ⟨Bp, hBp⟩ : ∃ B, B = U7.heap.size := ⟨_, rfl⟩
 rw [← hBp] at Kp_8 ⊢
 clear hbU hBp hBq
 obtain ⟨k0, k1, k2, k3⟩ := blk4 Kk_8.out
 obtain ⟨q0, q1, q2, q3, q4, q5, q6⟩ := blk7 Kc_8.out
 obtain ⟨z0, z1, z2, z3, z4⟩ := blk5 Kh_8.out
 obtain ⟨a0, a1, a2⟩ := blk3 Ka_8.out
 obtain ⟨v0, v1, v2⟩ := blk3 Kv_8.out
 obtain ⟨p0, p1, p2⟩ := blk3 Kp_8.out
 obtain ⟨s0, s1, s2, s3, s4⟩ := blk5 Ks_8.out
 obtain ⟨r0, r1, r2, r3, r4⟩ := blk5 Kq_8.out
 obtain ⟨t0, t1, t2, t3⟩ := blk4 Kt_8.out
 go_wp2_with (go_at_call 10; refine (hFi _ HB_8.out).mono ?_; rintro e U9 ⟨rfl, hb9⟩)
 go_ret
 exact ⟨rfl, HB_8.out.trans (Below.mono (by assumption) HB_8.out.size)⟩
end Go.Proofs.YtgokmkholjfhbaaGreat
