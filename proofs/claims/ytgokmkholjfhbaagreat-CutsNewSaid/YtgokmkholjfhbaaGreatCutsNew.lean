/-
 New of cuts answers as the document says (P18.1) for any configuration, and an engine without rules answers any header by default, within the document's bounds; the examples of the document hold.
 Conditions: none; the law holds for every input.
-/
import Derived.Test.YtgokmkholjfhbaaGreatPkAE
import Derived.Test.YtgokmkholjfhbaaGreatPkBO
import Derived.Test.YtgokmkholjfhbaaGreatPkBO
import Derived.Test.YtgokmkholjfhbaaGreatPkBP
namespace Go.Proofs.YtgokmkholjfhbaaGreat
open Go.ChangeShapes Go.WideShapes Go.ChangeAt Go.RowKit Go.Joins
set_option linter.unusedVariables false
set_option linter.unusedSimpArgs false

set_option maxRecDepth 20000 in
set_option maxHeartbeats 8000000 in
theorem cutsNew_walk (c : Cf) (bc : BdC c) (h : Hd) (oh : OkH h) (w : World) :
  Calls Tryz.prog 3 #[.agg #[.int .i64 c.m, .int .i64 c.a, .int .i64 c.p, .int .i64 c.g, .int .i64 c.t, .int .i64 c.b, .int .i64 c.d], .agg #[.int .u32 h.s, .int .u32 h.d, .int .u16 h.p, .int .u16 h.q, .int .u8 h.r]] w fun e w' => e = .returned (.bool true) ∧ Below w.heap.size w w' := by
 have Kc_0 : Hid (((w.alloc (.cells #[.int .i64 c.m, .int .i64 c.a, .int .i64 c.p, .int .i64 c.g, .int .i64 c.t, .int .i64 c.b, .int .i64 c.d] 24)).alloc (.cells #[.int .u32 h.s, .int .u32 h.d, .int .u16 h.p, .int .u16 h.q, .int .u8 h.r] 28)).heap[w.heap.size]? = some (.cells #[.int .i64 c.m, .int .i64 c.a, .int .i64 c.p, .int .i64 c.g, .int .i64 c.t, .int .i64 c.b, .int .i64 c.d] 24 (0, 0))) := blk_alloc (blk_new w _) _
 have Kh_0 : Hid (((w.alloc (.cells #[.int .i64 c.m, .int .i64 c.a, .int .i64 c.p, .int .i64 c.g, .int .i64 c.t, .int .i64 c.b, .int .i64 c.d] 24)).alloc (.cells #[.int .u32 h.s, .int .u32 h.d, .int .u16 h.p, .int .u16 h.q, .int .u8 h.r] 28)).heap[w.heap.size + 1]? = some (.cells #[.int .u32 h.s, .int .u32 h.d, .int .u16 h.p, .int .u16 h.q, .int .u8 h.r] 28 (0, 0))) := by
  have := blk_new (w.alloc (.cells #[.int .i64 c.m, .int .i64 c.a, .int .i64 c.p, .int .i64 c.g, .int .i64 c.t, .int .i64 c.b, .int .i64 c.d] 24)) (.cells #[.int .u32 h.s, .int .u32 h.d, .int .u16 h.p, .int .u16 h.q, .int .u8 h.r] 28)
  show _ = _
  simpa using this
 have HB_0 : Hid (Below w.heap.size w ((w.alloc (.cells #[.int .i64 c.m, .int .i64 c.a, .int .i64 c.p, .int .i64 c.g, .int .i64 c.t, .int .i64 c.b, .int .i64 c.d] 24)).alloc (.cells #[.int .u32 h.s, .int .u32 h.d, .int .u16 h.p, .int .u16 h.q, .int .u8 h.r] 28))) := ((Below.refl _ _).alloc (Nat.le_refl _) _).alloc (by simp) _
 go_enter Tryz.func3, Tryz.ntmps3
 go_upto_region 1 with (fail)
 try simp only [World.size_alloc]
 generalize (w.alloc (.cells #[.int .i64 c.m, .int .i64 c.a, .int .i64 c.p, .int .i64 c.g, .int .i64 c.t, .int .i64 c.b, .int .i64 c.d] 24)).alloc (.cells #[.int .u32 h.s, .int .u32 h.d, .int .u16 h.p, .int .u16 h.q, .int .u8 h.r] 28) = U0 at *
 cases hok : okC c with
 | true =>
  obtain ⟨q0, q1, q2, q3, q4, q5, q6⟩ := blk7 Kc_0.out
  go_wp2_with (go_at_call 6; fail)
  refine (rcheckCC c _).mono ?_
  rintro e U1 ⟨rfl, hb⟩
  have HB_1 : Hid (Below w.heap.size w U1) := HB_0.out.trans (Below.mono (hb) HB_0.out.size)
  have Kc_1 : Hid (U1.heap[w.heap.size]? = some (.cells #[.int .i64 c.m, .int .i64 c.a, .int .i64 c.p, .int .i64 c.g, .int .i64 c.t, .int .i64 c.b, .int .i64 c.d] 24 (0, 0))) := blk_on Kc_0.out (hb)
  have Kh_1 : Hid (U1.heap[w.heap.size + 1]? = some (.cells #[.int .u32 h.s, .int .u32 h.d, .int .u16 h.p, .int .u16 h.q, .int .u8 h.r] 28 (0, 0))) := blk_on Kh_0.out (hb)
  clear HB_0 Kc_0 Kh_0 
  clear hb q0 q1 q2 q3 q4 q5 q6
  obtain ⟨q0, q1, q2, q3, q4, q5, q6⟩ := blk7 Kc_1.out
  go_wp2_with (go_at_call 7; fail)
  refine (newE c bc hok _).mono ?_
  rintro er U2 ⟨X, rfl, hE, hX, hb⟩
  have NcX : Hid (w.heap.size ≠ X) := by have := blk_lt Kc_1.out; show _ ≠ _; omega
  have NhX : Hid (w.heap.size + 1 ≠ X) := by have := blk_lt Kh_1.out; show _ ≠ _; omega
  have WX : Hid (w.heap.size ≤ X) := Nat.le_trans HB_1.out.size hX
  have HB_2 : Hid (Below w.heap.size w U2) := HB_1.out.trans (Below.mono (hb) HB_1.out.size)
  have Kc_2 : Hid (U2.heap[w.heap.size]? = some (.cells #[.int .i64 c.m, .int .i64 c.a, .int .i64 c.p, .int .i64 c.g, .int .i64 c.t, .int .i64 c.b, .int .i64 c.d] 24 (0, 0))) := blk_on Kc_1.out (hb)
  have Kh_2 : Hid (U2.heap[w.heap.size + 1]? = some (.cells #[.int .u32 h.s, .int .u32 h.d, .int .u16 h.p, .int .u16 h.q, .int .u8 h.r] 28 (0, 0))) := blk_on Kh_1.out (hb)
  clear HB_1 Kc_1 Kh_1 
  have EX_2 : Hid (Eng U2 X c [] (fun k => U1.heap.size ≤ k ∧ k < X)) := hE
  clear hE hX hb
  clear q0 q1 q2 q3 q4 q5 q6
  rw [show errC c = 0 by unfold errC; rw [hok]; rfl]
  have hAsk := fun W (hE : Eng W X c [] (fun k => U1.heap.size ≤ k ∧ k < X)) => askE X c [] _ h W hE oh
  have hSta := fun W (hE : Eng W X c [] (fun k => U1.heap.size ≤ k ∧ k < X)) => statsE X c [] _ W hE
  unfold vdV stV at hAsk
  unfold saV at hSta
  have hf1 := (EX_2.out.fits oh)
  generalize (szT c.b.toNat c.d.toNat (rootP [])).2 = T at *
  generalize (szT c.b.toNat c.d.toNat (rootP [])).1 = n at *
  rw [show mat [] h = -1 from rfl, show vdH (-1) = false from rfl, show vdI [] (-1) = 0 from rfl, show vdA c.a [] (-1) = c.a from rfl] at hAsk
  rw [show mat [] h = -1 from rfl] at hf1
  generalize dpK c [] h = K at *
  generalize rlK c [] h = C at *
  obtain ⟨z0, z1, z2, z3, z4⟩ := blk5 Kh_2.out
  go_wp2_with (go_at_call 9; fail)
  refine (hAsk _ EX_2.out).mono ?_
  rintro e U3 ⟨rfl, hb⟩
  have HB_3 : Hid (Below w.heap.size w U3) := HB_2.out.trans (Below.mono (hb) HB_2.out.size)
  have Kc_3 : Hid (U3.heap[w.heap.size]? = some (.cells #[.int .i64 c.m, .int .i64 c.a, .int .i64 c.p, .int .i64 c.g, .int .i64 c.t, .int .i64 c.b, .int .i64 c.d] 24 (0, 0))) := blk_on Kc_2.out (hb)
  have Kh_3 : Hid (U3.heap[w.heap.size + 1]? = some (.cells #[.int .u32 h.s, .int .u32 h.d, .int .u16 h.p, .int .u16 h.q, .int .u8 h.r] 28 (0, 0))) := blk_on Kh_2.out (hb)
  have EX_3 : Hid (Eng U3 X c [] (fun k => U1.heap.size ≤ k ∧ k < X)) := EX_2.out.on (hb)
  clear HB_2 Kc_2 Kh_2 EX_2
  clear hb z0 z1 z2 z3 z4
  have hltX := EX_3.out.lt
  go_upto_region 8 with (fail)
  try simp only [World.size_alloc]
  obtain ⟨U4, hUU⟩ : ∃ U, U = ((U3.alloc (.cells #[.bool false, .int .i64 0, .int .i64 c.a] 36)).alloc (.cells #[.int .i64 ((K : Int) + 1), .int .i64 C, .int .i64 K, .int .i64 0, .int .i64 0] 38)) := ⟨_, rfl⟩
  have hbU : Below U3.heap.size U3 U4 := by rw [hUU]; exact (Below.alloc (Below.alloc (Below.refl _ _) (Nat.le_refl _) _) (by simp <;> omega) _)
  have Kv_n : U4.heap[U3.heap.size]? = some (.cells #[.bool false, .int .i64 0, .int .i64 c.a] 36 (0, 0)) := by have := blk_alloc (blk_new U3 (.cells #[.bool false, .int .i64 0, .int .i64 c.a] 36)) (.cells #[.int .i64 ((K : Int) + 1), .int .i64 C, .int .i64 K, .int .i64 0, .int .i64 0] 38); rw [← hUU] at this; simpa using this
  have Ks_n : U4.heap[U3.heap.size + 1]? = some (.cells #[.int .i64 ((K : Int) + 1), .int .i64 C, .int .i64 K, .int .i64 0, .int .i64 0] 38 (0, 0)) := by have := blk_new (U3.alloc (.cells #[.bool false, .int .i64 0, .int .i64 c.a] 36)) (.cells #[.int .i64 ((K : Int) + 1), .int .i64 C, .int .i64 K, .int .i64 0, .int .i64 0] 38); rw [← hUU] at this; simpa using this
  rw [← hUU]
  clear hUU
  have HB_4 : Hid (Below w.heap.size w U4) := HB_3.out.trans (Below.mono (hbU) HB_3.out.size)
  have Kc_4 : Hid (U4.heap[w.heap.size]? = some (.cells #[.int .i64 c.m, .int .i64 c.a, .int .i64 c.p, .int .i64 c.g, .int .i64 c.t, .int .i64 c.b, .int .i64 c.d] 24 (0, 0))) := blk_on Kc_3.out (hbU)
  have Kh_4 : Hid (U4.heap[w.heap.size + 1]? = some (.cells #[.int .u32 h.s, .int .u32 h.d, .int .u16 h.p, .int .u16 h.q, .int .u8 h.r] 28 (0, 0))) := blk_on Kh_3.out (hbU)
  have EX_4 : Hid (Eng U4 X c [] (fun k => U1.heap.size ≤ k ∧ k < X)) := EX_3.out.on (hbU)
  clear HB_3 Kc_3 Kh_3 EX_3
  have Kv_4 : Hid (U4.heap[U3.heap.size]? = some (.cells #[.bool false, .int .i64 0, .int .i64 c.a] 36 (0, 0))) := Kv_n
  clear Kv_n
  have Ks_4 : Hid (U4.heap[U3.heap.size + 1]? = some (.cells #[.int .i64 ((K : Int) + 1), .int .i64 C, .int .i64 K, .int .i64 0, .int .i64 0] 38 (0, 0))) := Ks_n
  clear Ks_n
  obtain ⟨Bs, hBs⟩ : ∃ B, B = U3.heap.size + 1 := ⟨_, rfl⟩
  rw [← hBs] at Ks_4 ⊢
  obtain ⟨Bv, hBv⟩ : ∃ B, B = U3.heap.size := ⟨_, rfl⟩
  rw [← hBv] at Kv_4 ⊢
  have NvX : Hid (Bv ≠ X) := by show _ ≠ _; omega
  have NsX : Hid (Bs ≠ X) := by show _ ≠ _; omega
  clear hbU hBv hBs
  clear hltX
  obtain ⟨q0, q1, q2, q3, q4, q5, q6⟩ := blk7 Kc_4.out
  obtain ⟨z0, z1, z2, z3, z4⟩ := blk5 Kh_4.out
  obtain ⟨v0, v1, v2⟩ := blk3 Kv_4.out
  obtain ⟨s0, s1, s2, s3, s4⟩ := blk5 Ks_4.out
  have lc := blk_lt Kc_4.out
  have lh := blk_lt Kh_4.out
  have lv := blk_lt Kv_4.out
  have ls := blk_lt Ks_4.out
  have HEX : Hid (∀ W, Below U4.heap.size U4 W → Eng W X c [] (fun k => U1.heap.size ≤ k ∧ k < X)) := fun W hb => EX_4.out.on hb
  have hFi := fun W => fitsC c [] (.slice none 0 0) h false 0 c.a K C n T W ⟨none, 0, rfl⟩ hok hf1.1 hf1.2.1 hf1.2.2.1 (by simp) hf1.2.2.2.1 hf1.2.2.2.2.1 hf1.2.2.2.2.2
  clear hf1
  have kne : Nonempty (Kin (U4)) := ⟨⟨_, Below.refl _ _⟩⟩
  have kc0 : ∀ y : Kin (U4), y.val.cell? ⟨w.heap.size, 0, none⟩ = some (.int .i64 c.m) := kcL
  have kc1 : ∀ y : Kin (U4), y.val.cell? ⟨w.heap.size, 1, none⟩ = some (.int .i64 c.a) := kcL
  have kc2 : ∀ y : Kin (U4), y.val.cell? ⟨w.heap.size, 2, none⟩ = some (.int .i64 c.p) := kcL
  have kc3 : ∀ y : Kin (U4), y.val.cell? ⟨w.heap.size, 3, none⟩ = some (.int .i64 c.g) := kcL
  have kc4 : ∀ y : Kin (U4), y.val.cell? ⟨w.heap.size, 4, none⟩ = some (.int .i64 c.t) := kcL
  have kc5 : ∀ y : Kin (U4), y.val.cell? ⟨w.heap.size, 5, none⟩ = some (.int .i64 c.b) := kcL
  have kc6 : ∀ y : Kin (U4), y.val.cell? ⟨w.heap.size, 6, none⟩ = some (.int .i64 c.d) := kcL
  have kc7 : ∀ y : Kin (U4), y.val.cell? ⟨w.heap.size + 1, 0, none⟩ = some (.int .u32 h.s) := kcL
  have kc8 : ∀ y : Kin (U4), y.val.cell? ⟨w.heap.size + 1, 1, none⟩ = some (.int .u32 h.d) := kcL
  have kc9 : ∀ y : Kin (U4), y.val.cell? ⟨w.heap.size + 1, 2, none⟩ = some (.int .u16 h.p) := kcL
  have kc10 : ∀ y : Kin (U4), y.val.cell? ⟨w.heap.size + 1, 3, none⟩ = some (.int .u16 h.q) := kcL
  have kc11 : ∀ y : Kin (U4), y.val.cell? ⟨w.heap.size + 1, 4, none⟩ = some (.int .u8 h.r) := kcL
  have kc12 : ∀ y : Kin (U4), y.val.cell? ⟨Bv, 0, none⟩ = some (.bool false) := kcL
  have kc13 : ∀ y : Kin (U4), y.val.cell? ⟨Bv, 1, none⟩ = some (.int .i64 0) := kcL
  have kc14 : ∀ y : Kin (U4), y.val.cell? ⟨Bv, 2, none⟩ = some (.int .i64 c.a) := kcL
  have kc15 : ∀ y : Kin (U4), y.val.cell? ⟨Bs, 0, none⟩ = some (.int .i64 ((K : Int) + 1)) := kcL
  have kc16 : ∀ y : Kin (U4), y.val.cell? ⟨Bs, 1, none⟩ = some (.int .i64 C) := kcL
  have kc17 : ∀ y : Kin (U4), y.val.cell? ⟨Bs, 2, none⟩ = some (.int .i64 K) := kcL
  have kc18 : ∀ y : Kin (U4), y.val.cell? ⟨Bs, 3, none⟩ = some (.int .i64 0) := kcL
  have kc19 : ∀ y : Kin (U4), y.val.cell? ⟨Bs, 4, none⟩ = some (.int .i64 0) := kcL
  refine wp_region_kin (U4) (Below.refl _ _) (by kernel_rfl) (by kernel_rfl) ?_
  repeat (go_big_quiet_step (first | (go_at_call 8; exact kin_call (awake18 _)) | (go_at_call 11; exact kin_call (hSta _ (HEX.out _ (Kin.is _)))) | (go_at_call 10; exact kin_call (hFi _))))
  refine wpQuiet_nil ?_
  rintro wq ⟨⟨xq, hxq⟩, hyq⟩
  have hq : Below (U4).heap.size (U4) wq := by rw [hyq]; exact hxq
  clear hyq hxq xq
  clear kne kc0 kc1 kc2 kc3 kc4 kc5 kc6 kc7 kc8 kc9 kc10 kc11 kc12 kc13 kc14 kc15 kc16 kc17 kc18 kc19
  obtain ⟨hcq, hfq⟩ := bcell hq
  have hzq := hq.size
  try simp at hzq
  go_wp2_with (fail)
  go_ret
  exact ⟨rfl, HB_4.out.trans (Below.mono hq HB_4.out.size)⟩
 | false =>
  obtain ⟨q0, q1, q2, q3, q4, q5, q6⟩ := blk7 Kc_0.out
  go_wp2_with (go_at_call 6; fail)
  refine (rcheckCC c _).mono ?_
  rintro e U1 ⟨rfl, hb⟩
  have HB_1 : Hid (Below w.heap.size w U1) := HB_0.out.trans (Below.mono (hb) HB_0.out.size)
  have Kc_1 : Hid (U1.heap[w.heap.size]? = some (.cells #[.int .i64 c.m, .int .i64 c.a, .int .i64 c.p, .int .i64 c.g, .int .i64 c.t, .int .i64 c.b, .int .i64 c.d] 24 (0, 0))) := blk_on Kc_0.out (hb)
  have Kh_1 : Hid (U1.heap[w.heap.size + 1]? = some (.cells #[.int .u32 h.s, .int .u32 h.d, .int .u16 h.p, .int .u16 h.q, .int .u8 h.r] 28 (0, 0))) := blk_on Kh_0.out (hb)
  clear HB_0 Kc_0 Kh_0 
  clear hb q0 q1 q2 q3 q4 q5 q6
  obtain ⟨q0, q1, q2, q3, q4, q5, q6⟩ := blk7 Kc_1.out
  go_wp2_with (go_at_call 7; fail)
  refine (newNo c bc hok _).mono ?_
  rintro e U2 ⟨rfl, hb⟩
  have HB_2 : Hid (Below w.heap.size w U2) := HB_1.out.trans (Below.mono (hb) HB_1.out.size)
  have Kc_2 : Hid (U2.heap[w.heap.size]? = some (.cells #[.int .i64 c.m, .int .i64 c.a, .int .i64 c.p, .int .i64 c.g, .int .i64 c.t, .int .i64 c.b, .int .i64 c.d] 24 (0, 0))) := blk_on Kc_1.out (hb)
  have Kh_2 : Hid (U2.heap[w.heap.size + 1]? = some (.cells #[.int .u32 h.s, .int .u32 h.d, .int .u16 h.p, .int .u16 h.q, .int .u8 h.r] 28 (0, 0))) := blk_on Kh_1.out (hb)
  clear HB_1 Kc_1 Kh_1 
  clear hb q0 q1 q2 q3 q4 q5 q6
  rw [show errC c = 110 by unfold errC; rw [hok]; rfl]
  go_wp2_with (go_at_call 8; fail)
  refine (awake18 _).mono ?_
  rintro e U3 ⟨rfl, hb⟩
  have HB_3 : Hid (Below w.heap.size w U3) := HB_2.out.trans (Below.mono (hb) HB_2.out.size)
  have Kc_3 : Hid (U3.heap[w.heap.size]? = some (.cells #[.int .i64 c.m, .int .i64 c.a, .int .i64 c.p, .int .i64 c.g, .int .i64 c.t, .int .i64 c.b, .int .i64 c.d] 24 (0, 0))) := blk_on Kc_2.out (hb)
  have Kh_3 : Hid (U3.heap[w.heap.size + 1]? = some (.cells #[.int .u32 h.s, .int .u32 h.d, .int .u16 h.p, .int .u16 h.q, .int .u8 h.r] 28 (0, 0))) := blk_on Kh_2.out (hb)
  clear HB_2 Kc_2 Kh_2 
  clear hb
  go_wp2_with (fail)
  go_ret
  exact ⟨rfl, HB_3.out⟩

set_option maxRecDepth 100000 in
theorem cutsNew_lifted (os : Os) (started : os.Started) (H : Type) (enc : TypeId × Value → H) :
  ReturnsInHanded {} Tryz.checked os 3 .any (Rows.cutsNewSpec.pre6 enc Tryz.prog Tryz.f3 Rows.cutsNewRow.domain false) (Rows.cutsNewSpec.post enc Tryz.prog Tryz.f3 false true false false) := by
 refine returnsInHanded_of_change (C := Tryz.checked) own started (by kernel_rfl) Tryz.func3
  (ChangeSpec.witness6 (enc := enc) (C := Tryz.checked) false ⟨#[], #[.agg #[.int .i64 0, .int .i64 0, .int .i64 0, .int .i64 0, .int .i64 0, .int .i64 0, .int .i64 0], .agg #[.int .u32 0, .int .u32 0, .int .u16 0, .int .u16 0, .int .u8 0]], []⟩ 8 (by kernel_rfl) (by kernel_rfl) (by kernel_rfl) (by kernel_rfl)) ?_
 intro W base args ds gs before hval0 hW hcnd _
 have hval : ∀ (j : Nat) t v, Tryz.f3.params[j]? = some t → args[j]? = some v → Value.okWide Tryz.prog W .any base t v := hval0
 have hW' := hW
 obtain ⟨p, q, hA0, hV, rfl, hfz, hnd⟩ := hW
 have hA : DataW.TrodAll enc Tryz.prog W 0 (fun _ => true) true Tryz.f3.params.toList args.toList ds p := hA0
 rw [Tryz.params3] at hA hval
 obtain ⟨v0, vs0, d0, ds0, p0, q0, hargs, rfl, rfl, h0, r0⟩ := trodAll_cons hA
 obtain ⟨v1, vs1, d1, ds1, p1, q1, rfl, rfl, rfl, h1, r1⟩ := trodAll_cons r0
 obtain ⟨rfl, rfl, rfl⟩ := trodAll_nil r1
 obtain rfl : args = #[v0, v1] := by cases args; simp_all
 obtain ⟨rfl, rfl⟩ := trodVars_none hV
 have hlt0 : ∀ x ∈ p0, x.block < W.heap.size := fun x hx => by simpa using hW'.lt x (by simp [hx])
 obtain ⟨g0, rfl, o0⟩ := open_cf (hval 0 24 v0 rfl rfl) h0
 have hlt1 : ∀ x ∈ p1, x.block < W.heap.size := fun x hx => by simpa using hW'.lt x (by simp [hx])
 obtain ⟨g1, rfl, o1⟩ := open_hd (hval 1 28 v1 rfl rfl) h1
 clear hA0 hval0
 simp only [List.append_nil] at hW'
 refine (cutsNew_walk g0 o0 g1 o1 W ).mono fun e W' ⟨he, bel⟩ => ?_
 subst he
 exact ⟨_, rfl, _, _, _, [], _, [], hW', trodAll_mk1 (shut_bool Tryz.underlying4 _), (trodAll_cons_mk (Below.trod laidOut (by kernel_rfl) (of_decide_eq_true (by kernel_rfl)) h0 bel hlt0) (trodAll_cons_mk (Below.trod laidOut (by kernel_rfl) (of_decide_eq_true (by kernel_rfl)) h1 bel hlt1) trodAll_mk0)), rfl, bel.frame _, fun h => by cases h⟩

/-- The given statement. -/
theorem cutsNew_holds : Rows.CutsNewSaid :=
 OpenClaim.holds_of_wide 3 Tryz.f3 rfl rfl rfl rfl rfl rfl rfl ⟨rfl, rfl, rfl, rfl, rfl⟩ rfl rfl rfl rfl rfl (by kernel_rfl) Tryz.func3 (by kernel_rfl)
  (of_decide_eq_true (by kernel_rfl)) (by unfold Func.isWrapper; first | (rw [if_pos (by decide +kernel)]; kernel_rfl) | (rw [if_neg (by decide +kernel)]; exact ⟨rfl, rfl⟩))
  (fun os started H enc _ => cutsNew_lifted os started H enc)
#print axioms cutsNew_holds
end Go.Proofs.YtgokmkholjfhbaaGreat
