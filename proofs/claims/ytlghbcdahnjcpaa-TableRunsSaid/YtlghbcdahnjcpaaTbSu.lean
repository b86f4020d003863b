/-
  step: Set, At, and the whole. Written by tools/mkTbSu.py.
-/
import Derived.Test.YtlghbcdahnjcpaaTbSt
namespace Go.Proofs.Ytlghbcdahnjcpaa
open Go.RowKit
set_option linter.unusedVariables false
set_option linter.unusedSimpArgs false

set_option maxRecDepth 100000 in
set_option maxHeartbeats 8000000 in
theorem step6o (t : Nat) (v : Value) (L : List Ru) (u : Value) (c : Cf) (o : Opp) (w0 w : World) (hT : Tab w t v c.m c.a L) (hD : Dj w t v u L) (hL : L.length ≤ 100000) (hbd : ∀ R ∈ L, BdR R) (hM : I64 c.m) (hB : Below w0.heap.size w0 w) (ht0 : w0.heap.size ≤ t) (hv0 : ∀ k, v.ownBlock = some k → w0.heap.size ≤ k) (hO : BdO w0 o) (hol : o.l.length ≤ 2000) (hk : o.k = 6) (hp : ¬ (0 ≤ o.p ∧ o.p ≤ (L.length : Int) - 1)) :
    Calls Try.prog 14 #[.pointer (some ⟨t, 0, none⟩), u, .agg #[.int .i64 c.m, .int .i64 c.a, .int .i64 c.p, .int .i64 c.g, .int .i64 c.t, .int .i64 c.b, .int .i64 c.d], .agg (encO o).toArray] w fun e w' => StepPost w t v c.m c.a L e w' := by
  have hbU : Below w.heap.size w ((w.alloc (.cells #[.int .i64 c.m, .int .i64 c.a, .int .i64 c.p, .int .i64 c.g, .int .i64 c.t, .int .i64 c.b, .int .i64 c.d] 24)).alloc (.cells (encO o).toArray 47)) := ((Below.refl _ _).alloc (Nat.le_refl _) _).alloc (by simp) _
  have HTU : Hid (Tab ((w.alloc (.cells #[.int .i64 c.m, .int .i64 c.a, .int .i64 c.p, .int .i64 c.g, .int .i64 c.t, .int .i64 c.b, .int .i64 c.d] 24)).alloc (.cells (encO o).toArray 47)) t v c.m c.a L) := hT.on hbU
  have HDU : Hid (Dj ((w.alloc (.cells #[.int .i64 c.m, .int .i64 c.a, .int .i64 c.p, .int .i64 c.g, .int .i64 c.t, .int .i64 c.b, .int .i64 c.d] 24)).alloc (.cells (encO o).toArray 47)) t v u L) := hD.on hbU
  have hlt := hT.lt
  have hown : ∀ k, v.ownBlock = some k → k < w.heap.size := fun k e => hT.own e
  have KC : Hid (Kb ((w.alloc (.cells #[.int .i64 c.m, .int .i64 c.a, .int .i64 c.p, .int .i64 c.g, .int .i64 c.t, .int .i64 c.b, .int .i64 c.d] 24)).alloc (.cells (encO o).toArray 47)) t v w.heap.size (.cells #[.int .i64 c.m, .int .i64 c.a, .int .i64 c.p, .int .i64 c.g, .int .i64 c.t, .int .i64 c.b, .int .i64 c.d] 24)) := ⟨blk_alloc (blk_new w _) _, by omega, fun e => by have := hown _ e; omega⟩
  have KO : Hid (Kb ((w.alloc (.cells #[.int .i64 c.m, .int .i64 c.a, .int .i64 c.p, .int .i64 c.g, .int .i64 c.t, .int .i64 c.b, .int .i64 c.d] 24)).alloc (.cells (encO o).toArray 47)) t v (w.heap.size + 1) (.cells (encO o).toArray 47)) := ⟨by simpa using blk_new (w.alloc (.cells #[.int .i64 c.m, .int .i64 c.a, .int .i64 c.p, .int .i64 c.g, .int .i64 c.t, .int .i64 c.b, .int .i64 c.d] 24)) (.cells (encO o).toArray 47), by omega, fun e => by have := hown _ e; omega⟩
  have HMU : Hid (Moved w ((w.alloc (.cells #[.int .i64 c.m, .int .i64 c.a, .int .i64 c.p, .int .i64 c.g, .int .i64 c.t, .int .i64 c.b, .int .i64 c.d] 24)).alloc (.cells (encO o).toArray 47)) t v v) := Moved.of_below hbU
  have hUs : ((w.alloc (.cells #[.int .i64 c.m, .int .i64 c.a, .int .i64 c.p, .int .i64 c.g, .int .i64 c.t, .int .i64 c.b, .int .i64 c.d] 24)).alloc (.cells (encO o).toArray 47)).heap.size = w.heap.size + 1 + 1 := by simp
  have x0 : ((w.alloc (.cells #[.int .i64 c.m, .int .i64 c.a, .int .i64 c.p, .int .i64 c.g, .int .i64 c.t, .int .i64 c.b, .int .i64 c.d] 24)).alloc (.cells (encO o).toArray 47)).cell? ⟨w.heap.size + 1, 0, none⟩ = some (.int .i64 o.k) := blk_cell KO.out.1 rfl
  rw [hk] at x0
  have x1 : ((w.alloc (.cells #[.int .i64 c.m, .int .i64 c.a, .int .i64 c.p, .int .i64 c.g, .int .i64 c.t, .int .i64 c.b, .int .i64 c.d] 24)).alloc (.cells (encO o).toArray 47)).cell? ⟨w.heap.size + 1, 1, none⟩ = some (.int .i64 o.p) := blk_cell KO.out.1 rfl
  have h1 := at_out t v c.m c.a L o.p _ HTU.out (by omega) hp
  have hEq : ∀ W, Sem.run Try.prog (binOp .eql 43 (.agg #[.int .i64 0, .int .u32 0, .int .i64 0, .int .u32 0, .int .i64 0, .int .u16 0, .int .u16 0, .int .u16 0, .int .u16 0, .int .u8 0, .int .u8 0, .int .i64 0]) (.agg #[.int .i64 0, .int .u32 0, .int .i64 0, .int .u32 0, .int .i64 0, .int .u16 0, .int .u16 0, .int .u16 0, .int .u16 0, .int .u8 0, .int .u8 0, .int .i64 0])) W = .ok (.bool true) W := fun W => eqR_self ruZ W
  have HF0 : Hid (∀ W, Below w.heap.size w W → StepPost w t v c.m c.a L (.returned (.tuple #[u, .bool true])) W) := fun W hb => ⟨u, v, L, rfl, hT.on hb, hD.on hb, Moved.of_below hb, .inl (Nat.le_succ _), hbd⟩
  have HBU : Hid (Below w.heap.size w ((w.alloc (.cells #[.int .i64 c.m, .int .i64 c.a, .int .i64 c.p, .int .i64 c.g, .int .i64 c.t, .int .i64 c.b, .int .i64 c.d] 24)).alloc (.cells (encO o).toArray 47))) := hbU
  obtain ⟨ad, cap, rfl, hcap, hat⟩ := id HDU.out.1
  obtain ⟨n, hn⟩ : ∃ n, n = L.length := ⟨_, rfl⟩
  rw [← hn] at hcap hp
  have Hn : Hid (n = L.length) := hn
  clear hO hT hD hbU HMU HTU hat
  rw [← hn] at HDU HF0 ⊢
  clear hn
  go_enter Try.func14, Try.ntmps14
  go_wp2_with (fail)
  refine h1.mono ?_
  rintro e W1 ⟨rfl, hb1⟩
  have HB1 : Hid (Below w.heap.size w W1) := HBU.out.trans (hb1.mono HBU.out.size)
  have KO1 : Hid (Kb W1 t v (w.heap.size + 1) (.cells (encO o).toArray 47)) := KO.out.on hb1
  have HD1 : Hid (Dj W1 t v (.slice ad n cap) L) := HDU.out.on hb1
  have hW1 : w.heap.size + 1 < W1.heap.size := KO1.out.lt
  clear h1 hb1 HDU HBU KC KO x0 x1
  have hbA : Below W1.heap.size W1 (W1.alloc (.cells #[.int .i64 0, .int .u32 0, .int .i64 0, .int .u32 0, .int .i64 0, .int .u16 0, .int .u16 0, .int .u16 0, .int .u16 0, .int .u8 0, .int .u8 0, .int .i64 0] 43)) := (Below.refl _ _).alloc (Nat.le_refl _) _
  have hzA : (W1.alloc (.cells #[.int .i64 0, .int .u32 0, .int .i64 0, .int .u32 0, .int .i64 0, .int .u16 0, .int .u16 0, .int .u16 0, .int .u16 0, .int .u8 0, .int .u8 0, .int .i64 0] 43)).heap.size = W1.heap.size + 1 := by simp
  have KR : (W1.alloc (.cells #[.int .i64 0, .int .u32 0, .int .i64 0, .int .u32 0, .int .i64 0, .int .u16 0, .int .u16 0, .int .u16 0, .int .u16 0, .int .u8 0, .int .u8 0, .int .i64 0] 43)).heap[W1.heap.size]? = some (.cells #[.int .i64 0, .int .u32 0, .int .i64 0, .int .u32 0, .int .i64 0, .int .u16 0, .int .u16 0, .int .u16 0, .int .u16 0, .int .u8 0, .int .u8 0, .int .i64 0] 43) := blk_new W1 _
  have KA : (W1.alloc (.cells #[.int .i64 0, .int .u32 0, .int .i64 0, .int .u32 0, .int .i64 0, .int .u16 0, .int .u16 0, .int .u16 0, .int .u16 0, .int .u8 0, .int .u8 0, .int .i64 0] 43)).heap[w.heap.size + 1]? = some (.cells (encO o).toArray 47) := blk_alloc KO1.out.1 _
  have HBA : Hid (Below w.heap.size w (W1.alloc (.cells #[.int .i64 0, .int .u32 0, .int .i64 0, .int .u32 0, .int .i64 0, .int .u16 0, .int .u16 0, .int .u16 0, .int .u16 0, .int .u8 0, .int .u8 0, .int .i64 0] 43))) := HB1.out.trans (hbA.mono HB1.out.size)
  have HDA : Hid (Dj (W1.alloc (.cells #[.int .i64 0, .int .u32 0, .int .i64 0, .int .u32 0, .int .i64 0, .int .u16 0, .int .u16 0, .int .u16 0, .int .u16 0, .int .u8 0, .int .u8 0, .int .i64 0] 43)) t v (.slice ad n cap) L) := HD1.out.on hbA
  have x1 : (W1.alloc (.cells #[.int .i64 0, .int .u32 0, .int .i64 0, .int .u32 0, .int .i64 0, .int .u16 0, .int .u16 0, .int .u16 0, .int .u16 0, .int .u8 0, .int .u8 0, .int .i64 0] 43)).cell? ⟨w.heap.size + 1, 1, none⟩ = some (.int .i64 o.p) := blk_cell KA rfl
  clear hbA HB1 HD1 KO1 KA
  by_cases hp0 : o.p < 0
  · go_upto_region 27 with (fail)
    generalize hWA : (W1.alloc (.cells #[.int .i64 0, .int .u32 0, .int .i64 0, .int .u32 0, .int .i64 0, .int .u16 0, .int .u16 0, .int .u16 0, .int .u16 0, .int .u8 0, .int .u8 0, .int .i64 0] 43)) = WA at *
    have r0 : WA.cell? ⟨W1.heap.size, 0, none⟩ = some (.int .i64 0) := blk_cell KR rfl
    have r1 : WA.cell? ⟨W1.heap.size, 1, none⟩ = some (.int .u32 0) := blk_cell KR rfl
    have r2 : WA.cell? ⟨W1.heap.size, 2, none⟩ = some (.int .i64 0) := blk_cell KR rfl
    have r3 : WA.cell? ⟨W1.heap.size, 3, none⟩ = some (.int .u32 0) := blk_cell KR rfl
    have r4 : WA.cell? ⟨W1.heap.size, 4, none⟩ = some (.int .i64 0) := blk_cell KR rfl
    have r5 : WA.cell? ⟨W1.heap.size, 5, none⟩ = some (.int .u16 0) := blk_cell KR rfl
    have r6 : WA.cell? ⟨W1.heap.size, 6, none⟩ = some (.int .u16 0) := blk_cell KR rfl
    have r7 : WA.cell? ⟨W1.heap.size, 7, none⟩ = some (.int .u16 0) := blk_cell KR rfl
    have r8 : WA.cell? ⟨W1.heap.size, 8, none⟩ = some (.int .u16 0) := blk_cell KR rfl
    have r9 : WA.cell? ⟨W1.heap.size, 9, none⟩ = some (.int .u8 0) := blk_cell KR rfl
    have r10 : WA.cell? ⟨W1.heap.size, 10, none⟩ = some (.int .u8 0) := blk_cell KR rfl
    have r11 : WA.cell? ⟨W1.heap.size, 11, none⟩ = some (.int .i64 0) := blk_cell KR rfl
    have kne : Nonempty (Kin (WA)) := ⟨⟨_, Below.refl _ _⟩⟩
    have kc0 : ∀ y : Kin (WA), y.val.cell? ⟨w.heap.size + 1, 1, none⟩ = some (.int .i64 o.p) := fun y => by rw [kin_cell (by first | omega | (simp <;> omega))]; first | assumption | (simp [go_sem]; done) | simp [go_sem, *]
    have kc1 : ∀ y : Kin (WA), y.val.cell? ⟨W1.heap.size, 0, none⟩ = some (.int .i64 0) := fun y => by rw [kin_cell (by first | omega | (simp <;> omega))]; first | assumption | (simp [go_sem]; done) | simp [go_sem, *]
    have kc2 : ∀ y : Kin (WA), y.val.cell? ⟨W1.heap.size, 1, none⟩ = some (.int .u32 0) := fun y => by rw [kin_cell (by first | omega | (simp <;> omega))]; first | assumption | (simp [go_sem]; done) | simp [go_sem, *]
    have kc3 : ∀ y : Kin (WA), y.val.cell? ⟨W1.heap.size, 2, none⟩ = some (.int .i64 0) := fun y => by rw [kin_cell (by first | omega | (simp <;> omega))]; first | assumption | (simp [go_sem]; done) | simp [go_sem, *]
    have kc4 : ∀ y : Kin (WA), y.val.cell? ⟨W1.heap.size, 3, none⟩ = some (.int .u32 0) := fun y => by rw [kin_cell (by first | omega | (simp <;> omega))]; first | assumption | (simp [go_sem]; done) | simp [go_sem, *]
    have kc5 : ∀ y : Kin (WA), y.val.cell? ⟨W1.heap.size, 4, none⟩ = some (.int .i64 0) := fun y => by rw [kin_cell (by first | omega | (simp <;> omega))]; first | assumption | (simp [go_sem]; done) | simp [go_sem, *]
    have kc6 : ∀ y : Kin (WA), y.val.cell? ⟨W1.heap.size, 5, none⟩ = some (.int .u16 0) := fun y => by rw [kin_cell (by first | omega | (simp <;> omega))]; first | assumption | (simp [go_sem]; done) | simp [go_sem, *]
    have kc7 : ∀ y : Kin (WA), y.val.cell? ⟨W1.heap.size, 6, none⟩ = some (.int .u16 0) := fun y => by rw [kin_cell (by first | omega | (simp <;> omega))]; first | assumption | (simp [go_sem]; done) | simp [go_sem, *]
    have kc8 : ∀ y : Kin (WA), y.val.cell? ⟨W1.heap.size, 7, none⟩ = some (.int .u16 0) := fun y => by rw [kin_cell (by first | omega | (simp <;> omega))]; first | assumption | (simp [go_sem]; done) | simp [go_sem, *]
    have kc9 : ∀ y : Kin (WA), y.val.cell? ⟨W1.heap.size, 8, none⟩ = some (.int .u16 0) := fun y => by rw [kin_cell (by first | omega | (simp <;> omega))]; first | assumption | (simp [go_sem]; done) | simp [go_sem, *]
    have kc10 : ∀ y : Kin (WA), y.val.cell? ⟨W1.heap.size, 9, none⟩ = some (.int .u8 0) := fun y => by rw [kin_cell (by first | omega | (simp <;> omega))]; first | assumption | (simp [go_sem]; done) | simp [go_sem, *]
    have kc11 : ∀ y : Kin (WA), y.val.cell? ⟨W1.heap.size, 10, none⟩ = some (.int .u8 0) := fun y => by rw [kin_cell (by first | omega | (simp <;> omega))]; first | assumption | (simp [go_sem]; done) | simp [go_sem, *]
    have kc12 : ∀ y : Kin (WA), y.val.cell? ⟨W1.heap.size, 11, none⟩ = some (.int .i64 0) := fun y => by rw [kin_cell (by first | omega | (simp <;> omega))]; first | assumption | (simp [go_sem]; done) | simp [go_sem, *]
    refine wp_region_kin (WA) (Below.refl _ _) (by kernel_rfl) (by kernel_rfl) ?_
    repeat (go_big_quiet_step (fail))
    refine wpQuiet_nil ?_
    rintro wq ⟨⟨xq, hxq⟩, hyq⟩
    have hq : Below (WA).heap.size (WA) wq := by rw [hyq]; exact hxq
    clear hyq hxq xq
    clear kne kc0 kc1 kc2 kc3 kc4 kc5 kc6 kc7 kc8 kc9 kc10 kc11 kc12
    obtain ⟨hcq, hfq⟩ := bcell hq
    have hzq := hq.size
    try simp at hzq
    have HF : Hid (StepPost w t v c.m c.a L (.returned (.tuple #[.slice ad n cap, .bool true])) wq) := HF0.out _ (HBA.out.trans (hq.mono HBA.out.size))
    clear hq hcq hfq hzq HBA HF0 KR HDA hEq x1 r0 r1 r2 r3 r4 r5 r6 r7 r8 r9 r10 r11
    go_wp2_with (fail)
    refine bodyPost_ret (v := .tuple #[.slice ad n cap, .bool true]) (by simp [results, Try.results14, go_sem]) rfl ?_
    exact HF.out
  have hp1 : (n : Int) ≤ o.p := by omega
  go_upto_region 27 with (fail)
  generalize hWA : (W1.alloc (.cells #[.int .i64 0, .int .u32 0, .int .i64 0, .int .u32 0, .int .i64 0, .int .u16 0, .int .u16 0, .int .u16 0, .int .u16 0, .int .u8 0, .int .u8 0, .int .i64 0] 43)) = WA at *
  have r0 : WA.cell? ⟨W1.heap.size, 0, none⟩ = some (.int .i64 0) := blk_cell KR rfl
  have r1 : WA.cell? ⟨W1.heap.size, 1, none⟩ = some (.int .u32 0) := blk_cell KR rfl
  have r2 : WA.cell? ⟨W1.heap.size, 2, none⟩ = some (.int .i64 0) := blk_cell KR rfl
  have r3 : WA.cell? ⟨W1.heap.size, 3, none⟩ = some (.int .u32 0) := blk_cell KR rfl
  have r4 : WA.cell? ⟨W1.heap.size, 4, none⟩ = some (.int .i64 0) := blk_cell KR rfl
  have r5 : WA.cell? ⟨W1.heap.size, 5, none⟩ = some (.int .u16 0) := blk_cell KR rfl
  have r6 : WA.cell? ⟨W1.heap.size, 6, none⟩ = some (.int .u16 0) := blk_cell KR rfl
  have r7 : WA.cell? ⟨W1.heap.size, 7, none⟩ = some (.int .u16 0) := blk_cell KR rfl
  have r8 : WA.cell? ⟨W1.heap.size, 8, none⟩ = some (.int .u16 0) := blk_cell KR rfl
  have r9 : WA.cell? ⟨W1.heap.size, 9, none⟩ = some (.int .u8 0) := blk_cell KR rfl
  have r10 : WA.cell? ⟨W1.heap.size, 10, none⟩ = some (.int .u8 0) := blk_cell KR rfl
  have r11 : WA.cell? ⟨W1.heap.size, 11, none⟩ = some (.int .i64 0) := blk_cell KR rfl
  have kne : Nonempty (Kin (WA)) := ⟨⟨_, Below.refl _ _⟩⟩
  have kc0 : ∀ y : Kin (WA), y.val.cell? ⟨w.heap.size + 1, 1, none⟩ = some (.int .i64 o.p) := fun y => by rw [kin_cell (by first | omega | (simp <;> omega))]; first | assumption | (simp [go_sem]; done) | simp [go_sem, *]
  have kc1 : ∀ y : Kin (WA), y.val.cell? ⟨W1.heap.size, 0, none⟩ = some (.int .i64 0) := fun y => by rw [kin_cell (by first | omega | (simp <;> omega))]; first | assumption | (simp [go_sem]; done) | simp [go_sem, *]
  have kc2 : ∀ y : Kin (WA), y.val.cell? ⟨W1.heap.size, 1, none⟩ = some (.int .u32 0) := fun y => by rw [kin_cell (by first | omega | (simp <;> omega))]; first | assumption | (simp [go_sem]; done) | simp [go_sem, *]
  have kc3 : ∀ y : Kin (WA), y.val.cell? ⟨W1.heap.size, 2, none⟩ = some (.int .i64 0) := fun y => by rw [kin_cell (by first | omega | (simp <;> omega))]; first | assumption | (simp [go_sem]; done) | simp [go_sem, *]
  have kc4 : ∀ y : Kin (WA), y.val.cell? ⟨W1.heap.size, 3, none⟩ = some (.int .u32 0) := fun y => by rw [kin_cell (by first | omega | (simp <;> omega))]; first | assumption | (simp [go_sem]; done) | simp [go_sem, *]
  have kc5 : ∀ y : Kin (WA), y.val.cell? ⟨W1.heap.size, 4, none⟩ = some (.int .i64 0) := fun y => by rw [kin_cell (by first | omega | (simp <;> omega))]; first | assumption | (simp [go_sem]; done) | simp [go_sem, *]
  have kc6 : ∀ y : Kin (WA), y.val.cell? ⟨W1.heap.size, 5, none⟩ = some (.int .u16 0) := fun y => by rw [kin_cell (by first | omega | (simp <;> omega))]; first | assumption | (simp [go_sem]; done) | simp [go_sem, *]
  have kc7 : ∀ y : Kin (WA), y.val.cell? ⟨W1.heap.size, 6, none⟩ = some (.int .u16 0) := fun y => by rw [kin_cell (by first | omega | (simp <;> omega))]; first | assumption | (simp [go_sem]; done) | simp [go_sem, *]
  have kc8 : ∀ y : Kin (WA), y.val.cell? ⟨W1.heap.size, 7, none⟩ = some (.int .u16 0) := fun y => by rw [kin_cell (by first | omega | (simp <;> omega))]; first | assumption | (simp [go_sem]; done) | simp [go_sem, *]
  have kc9 : ∀ y : Kin (WA), y.val.cell? ⟨W1.heap.size, 8, none⟩ = some (.int .u16 0) := fun y => by rw [kin_cell (by first | omega | (simp <;> omega))]; first | assumption | (simp [go_sem]; done) | simp [go_sem, *]
  have kc10 : ∀ y : Kin (WA), y.val.cell? ⟨W1.heap.size, 9, none⟩ = some (.int .u8 0) := fun y => by rw [kin_cell (by first | omega | (simp <;> omega))]; first | assumption | (simp [go_sem]; done) | simp [go_sem, *]
  have kc11 : ∀ y : Kin (WA), y.val.cell? ⟨W1.heap.size, 10, none⟩ = some (.int .u8 0) := fun y => by rw [kin_cell (by first | omega | (simp <;> omega))]; first | assumption | (simp [go_sem]; done) | simp [go_sem, *]
  have kc12 : ∀ y : Kin (WA), y.val.cell? ⟨W1.heap.size, 11, none⟩ = some (.int .i64 0) := fun y => by rw [kin_cell (by first | omega | (simp <;> omega))]; first | assumption | (simp [go_sem]; done) | simp [go_sem, *]
  refine wp_region_kin (WA) (Below.refl _ _) (by kernel_rfl) (by kernel_rfl) ?_
  repeat (go_big_quiet_step (fail))
  refine wpQuiet_nil ?_
  rintro wq ⟨⟨xq, hxq⟩, hyq⟩
  have hq : Below (WA).heap.size (WA) wq := by rw [hyq]; exact hxq
  clear hyq hxq xq
  clear kne kc0 kc1 kc2 kc3 kc4 kc5 kc6 kc7 kc8 kc9 kc10 kc11 kc12
  obtain ⟨hcq, hfq⟩ := bcell hq
  have hzq := hq.size
  try simp at hzq
  have HF : Hid (StepPost w t v c.m c.a L (.returned (.tuple #[.slice ad n cap, .bool true])) wq) := HF0.out _ (HBA.out.trans (hq.mono HBA.out.size))
  clear hq hcq hfq hzq HBA HF0 KR HDA hEq x1 r0 r1 r2 r3 r4 r5 r6 r7 r8 r9 r10 r11
  go_wp2_with (fail)
  refine bodyPost_ret (v := .tuple #[.slice ad n cap, .bool true]) (by simp [results, Try.results14, go_sem]) rfl ?_
  exact HF.out
set_option maxRecDepth 100000 in
set_option maxHeartbeats 8000000 in
theorem step6i (t : Nat) (v : Value) (L : List Ru) (u : Value) (c : Cf) (o : Opp) (w0 w : World) (hT : Tab w t v c.m c.a L) (hD : Dj w t v u L) (hL : L.length ≤ 100000) (hbd : ∀ R ∈ L, BdR R) (hM : I64 c.m) (hB : Below w0.heap.size w0 w) (ht0 : w0.heap.size ≤ t) (hv0 : ∀ k, v.ownBlock = some k → w0.heap.size ≤ k) (hO : BdO w0 o) (hol : o.l.length ≤ 2000) (hk : o.k = 6) (q : Nat) (hq : o.p = (q : Int)) (hql : q < L.length) (p : Ru) (hp : p = L[q]'hql) :
    Calls Try.prog 14 #[.pointer (some ⟨t, 0, none⟩), u, .agg #[.int .i64 c.m, .int .i64 c.a, .int .i64 c.p, .int .i64 c.g, .int .i64 c.t, .int .i64 c.b, .int .i64 c.d], .agg (encO o).toArray] w fun e w' => StepPost w t v c.m c.a L e w' := by
  have hbU : Below w.heap.size w ((w.alloc (.cells #[.int .i64 c.m, .int .i64 c.a, .int .i64 c.p, .int .i64 c.g, .int .i64 c.t, .int .i64 c.b, .int .i64 c.d] 24)).alloc (.cells (encO o).toArray 47)) := ((Below.refl _ _).alloc (Nat.le_refl _) _).alloc (by simp) _
  have HTU : Hid (Tab ((w.alloc (.cells #[.int .i64 c.m, .int .i64 c.a, .int .i64 c.p, .int .i64 c.g, .int .i64 c.t, .int .i64 c.b, .int .i64 c.d] 24)).alloc (.cells (encO o).toArray 47)) t v c.m c.a L) := hT.on hbU
  have HDU : Hid (Dj ((w.alloc (.cells #[.int .i64 c.m, .int .i64 c.a, .int .i64 c.p, .int .i64 c.g, .int .i64 c.t, .int .i64 c.b, .int .i64 c.d] 24)).alloc (.cells (encO o).toArray 47)) t v u L) := hD.on hbU
  have hlt := hT.lt
  have hown : ∀ k, v.ownBlock = some k → k < w.heap.size := fun k e => hT.own e
  have KC : Hid (Kb ((w.alloc (.cells #[.int .i64 c.m, .int .i64 c.a, .int .i64 c.p, .int .i64 c.g, .int .i64 c.t, .int .i64 c.b, .int .i64 c.d] 24)).alloc (.cells (encO o).toArray 47)) t v w.heap.size (.cells #[.int .i64 c.m, .int .i64 c.a, .int .i64 c.p, .int .i64 c.g, .int .i64 c.t, .int .i64 c.b, .int .i64 c.d] 24)) := ⟨blk_alloc (blk_new w _) _, by omega, fun e => by have := hown _ e; omega⟩
  have KO : Hid (Kb ((w.alloc (.cells #[.int .i64 c.m, .int .i64 c.a, .int .i64 c.p, .int .i64 c.g, .int .i64 c.t, .int .i64 c.b, .int .i64 c.d] 24)).alloc (.cells (encO o).toArray 47)) t v (w.heap.size + 1) (.cells (encO o).toArray 47)) := ⟨by simpa using blk_new (w.alloc (.cells #[.int .i64 c.m, .int .i64 c.a, .int .i64 c.p, .int .i64 c.g, .int .i64 c.t, .int .i64 c.b, .int .i64 c.d] 24)) (.cells (encO o).toArray 47), by omega, fun e => by have := hown _ e; omega⟩
  have HMU : Hid (Moved w ((w.alloc (.cells #[.int .i64 c.m, .int .i64 c.a, .int .i64 c.p, .int .i64 c.g, .int .i64 c.t, .int .i64 c.b, .int .i64 c.d] 24)).alloc (.cells (encO o).toArray 47)) t v v) := Moved.of_below hbU
  have hUs : ((w.alloc (.cells #[.int .i64 c.m, .int .i64 c.a, .int .i64 c.p, .int .i64 c.g, .int .i64 c.t, .int .i64 c.b, .int .i64 c.d] 24)).alloc (.cells (encO o).toArray 47)).heap.size = w.heap.size + 1 + 1 := by simp
  have x0 : ((w.alloc (.cells #[.int .i64 c.m, .int .i64 c.a, .int .i64 c.p, .int .i64 c.g, .int .i64 c.t, .int .i64 c.b, .int .i64 c.d] 24)).alloc (.cells (encO o).toArray 47)).cell? ⟨w.heap.size + 1, 0, none⟩ = some (.int .i64 o.k) := blk_cell KO.out.1 rfl
  rw [hk] at x0
  have x1 : ((w.alloc (.cells #[.int .i64 c.m, .int .i64 c.a, .int .i64 c.p, .int .i64 c.g, .int .i64 c.t, .int .i64 c.b, .int .i64 c.d] 24)).alloc (.cells (encO o).toArray 47)).cell? ⟨w.heap.size + 1, 1, none⟩ = some (.int .i64 o.p) := blk_cell KO.out.1 rfl
  rw [hq] at x1
  have h1 := at_in t v c.m c.a L q _ HTU.out (by omega) hql p hp
  have hEq := eqR_self p
  have HF0 : Hid (∀ W, Below w.heap.size w W → StepPost w t v c.m c.a L (.returned (.tuple #[u, .bool true])) W) := fun W hb => ⟨u, v, L, rfl, hT.on hb, hD.on hb, Moved.of_below hb, .inl (Nat.le_succ _), hbd⟩
  have HBU : Hid (Below w.heap.size w ((w.alloc (.cells #[.int .i64 c.m, .int .i64 c.a, .int .i64 c.p, .int .i64 c.g, .int .i64 c.t, .int .i64 c.b, .int .i64 c.d] 24)).alloc (.cells (encO o).toArray 47))) := hbU
  obtain ⟨ad, cap, rfl, hcap, hat⟩ := id HDU.out.1
  obtain ⟨n, hn⟩ : ∃ n, n = L.length := ⟨_, rfl⟩
  rw [← hn] at hcap
  have hql' : (q : Int) < (n : Int) := by omega
  have hqd : decide (n ≤ q) = false := decide_eq_false (by omega)
  have hq0 : ¬ (q : Int) < 0 := by omega
  have HQ : Hid (q < L.length) := hql
  have HP : Hid (p = L[q]'hql) := hp
  have Hn : Hid (n = L.length) := hn
  have Hpq : Hid (o.p = (q : Int)) := hq
  clear hO hT hD hbU HMU HTU hat hp hq
  rw [← hn] at HDU HF0 ⊢
  clear hn
  go_enter Try.func14, Try.ntmps14
  go_wp2_with (fail)
  refine h1.mono ?_
  rintro e W1 ⟨rfl, hb1⟩
  have HB1 : Hid (Below w.heap.size w W1) := HBU.out.trans (hb1.mono HBU.out.size)
  have KO1 : Hid (Kb W1 t v (w.heap.size + 1) (.cells (encO o).toArray 47)) := KO.out.on hb1
  have HD1 : Hid (Dj W1 t v (.slice ad n cap) L) := HDU.out.on hb1
  have hW1 : w.heap.size + 1 < W1.heap.size := KO1.out.lt
  clear h1 hb1 HDU HBU KC KO x0 x1
  have hbA : Below W1.heap.size W1 (W1.alloc (.cells #[.int .i64 p.i, .int .u32 (p.s : Int), .int .i64 p.sl, .int .u32 (p.d : Int), .int .i64 p.dl, .int .u16 (p.p.1 : Int), .int .u16 (p.p.2 : Int), .int .u16 (p.q.1 : Int), .int .u16 (p.q.2 : Int), .int .u8 (p.m.1 : Int), .int .u8 (p.m.2 : Int), .int .i64 p.act] 43)) := (Below.refl _ _).alloc (Nat.le_refl _) _
  have hzA : (W1.alloc (.cells #[.int .i64 p.i, .int .u32 (p.s : Int), .int .i64 p.sl, .int .u32 (p.d : Int), .int .i64 p.dl, .int .u16 (p.p.1 : Int), .int .u16 (p.p.2 : Int), .int .u16 (p.q.1 : Int), .int .u16 (p.q.2 : Int), .int .u8 (p.m.1 : Int), .int .u8 (p.m.2 : Int), .int .i64 p.act] 43)).heap.size = W1.heap.size + 1 := by simp
  have KR : (W1.alloc (.cells #[.int .i64 p.i, .int .u32 (p.s : Int), .int .i64 p.sl, .int .u32 (p.d : Int), .int .i64 p.dl, .int .u16 (p.p.1 : Int), .int .u16 (p.p.2 : Int), .int .u16 (p.q.1 : Int), .int .u16 (p.q.2 : Int), .int .u8 (p.m.1 : Int), .int .u8 (p.m.2 : Int), .int .i64 p.act] 43)).heap[W1.heap.size]? = some (.cells #[.int .i64 p.i, .int .u32 (p.s : Int), .int .i64 p.sl, .int .u32 (p.d : Int), .int .i64 p.dl, .int .u16 (p.p.1 : Int), .int .u16 (p.p.2 : Int), .int .u16 (p.q.1 : Int), .int .u16 (p.q.2 : Int), .int .u8 (p.m.1 : Int), .int .u8 (p.m.2 : Int), .int .i64 p.act] 43) := blk_new W1 _
  have KA : (W1.alloc (.cells #[.int .i64 p.i, .int .u32 (p.s : Int), .int .i64 p.sl, .int .u32 (p.d : Int), .int .i64 p.dl, .int .u16 (p.p.1 : Int), .int .u16 (p.p.2 : Int), .int .u16 (p.q.1 : Int), .int .u16 (p.q.2 : Int), .int .u8 (p.m.1 : Int), .int .u8 (p.m.2 : Int), .int .i64 p.act] 43)).heap[w.heap.size + 1]? = some (.cells (encO o).toArray 47) := blk_alloc KO1.out.1 _
  have HBA : Hid (Below w.heap.size w (W1.alloc (.cells #[.int .i64 p.i, .int .u32 (p.s : Int), .int .i64 p.sl, .int .u32 (p.d : Int), .int .i64 p.dl, .int .u16 (p.p.1 : Int), .int .u16 (p.p.2 : Int), .int .u16 (p.q.1 : Int), .int .u16 (p.q.2 : Int), .int .u8 (p.m.1 : Int), .int .u8 (p.m.2 : Int), .int .i64 p.act] 43))) := HB1.out.trans (hbA.mono HB1.out.size)
  have HDA : Hid (Dj (W1.alloc (.cells #[.int .i64 p.i, .int .u32 (p.s : Int), .int .i64 p.sl, .int .u32 (p.d : Int), .int .i64 p.dl, .int .u16 (p.p.1 : Int), .int .u16 (p.p.2 : Int), .int .u16 (p.q.1 : Int), .int .u16 (p.q.2 : Int), .int .u8 (p.m.1 : Int), .int .u8 (p.m.2 : Int), .int .i64 p.act] 43)) t v (.slice ad n cap) L) := HD1.out.on hbA
  have x1 : (W1.alloc (.cells #[.int .i64 p.i, .int .u32 (p.s : Int), .int .i64 p.sl, .int .u32 (p.d : Int), .int .i64 p.dl, .int .u16 (p.p.1 : Int), .int .u16 (p.p.2 : Int), .int .u16 (p.q.1 : Int), .int .u16 (p.q.2 : Int), .int .u8 (p.m.1 : Int), .int .u8 (p.m.2 : Int), .int .i64 p.act] 43)).cell? ⟨w.heap.size + 1, 1, none⟩ = some (.int .i64 (q : Int)) := by have h := blk_cell (v := .int .i64 o.p) (j := 1) KA rfl; rw [Hpq.out] at h; exact h
  clear hbA HB1 HD1 KO1 KA
  go_upto_region 28 with (fail)
  generalize hWA : (W1.alloc (.cells #[.int .i64 p.i, .int .u32 (p.s : Int), .int .i64 p.sl, .int .u32 (p.d : Int), .int .i64 p.dl, .int .u16 (p.p.1 : Int), .int .u16 (p.p.2 : Int), .int .u16 (p.q.1 : Int), .int .u16 (p.q.2 : Int), .int .u8 (p.m.1 : Int), .int .u8 (p.m.2 : Int), .int .i64 p.act] 43)) = WA at *
  obtain ⟨g, off, rfl, hrg⟩ := HDA.out.1.rng.2 WA (Below.refl _ _) q HQ.out
  rw [← HP.out] at hrg
  have hgz : g < WA.heap.size := World.block_lt_of_cell? WA ⟨g, off + q * 12, none⟩ (hrg 0 _ rfl)
  have y0 : WA.cell? ⟨g, off + q * 12, none⟩ = some (.int .i64 p.i) := hrg 0 _ rfl
  have y1 : WA.cell? ⟨g, off + q * 12 + 1, none⟩ = some (.int .u32 (p.s : Int)) := hrg 1 _ rfl
  have y2 : WA.cell? ⟨g, off + q * 12 + 2, none⟩ = some (.int .i64 p.sl) := hrg 2 _ rfl
  have y3 : WA.cell? ⟨g, off + q * 12 + 3, none⟩ = some (.int .u32 (p.d : Int)) := hrg 3 _ rfl
  have y4 : WA.cell? ⟨g, off + q * 12 + 4, none⟩ = some (.int .i64 p.dl) := hrg 4 _ rfl
  have y5 : WA.cell? ⟨g, off + q * 12 + 5, none⟩ = some (.int .u16 (p.p.1 : Int)) := hrg 5 _ rfl
  have y6 : WA.cell? ⟨g, off + q * 12 + 6, none⟩ = some (.int .u16 (p.p.2 : Int)) := hrg 6 _ rfl
  have y7 : WA.cell? ⟨g, off + q * 12 + 7, none⟩ = some (.int .u16 (p.q.1 : Int)) := hrg 7 _ rfl
  have y8 : WA.cell? ⟨g, off + q * 12 + 8, none⟩ = some (.int .u16 (p.q.2 : Int)) := hrg 8 _ rfl
  have y9 : WA.cell? ⟨g, off + q * 12 + 9, none⟩ = some (.int .u8 (p.m.1 : Int)) := hrg 9 _ rfl
  have y10 : WA.cell? ⟨g, off + q * 12 + 10, none⟩ = some (.int .u8 (p.m.2 : Int)) := hrg 10 _ rfl
  have y11 : WA.cell? ⟨g, off + q * 12 + 11, none⟩ = some (.int .i64 p.act) := hrg 11 _ rfl
  clear hrg
  have r0 : WA.cell? ⟨W1.heap.size, 0, none⟩ = some (.int .i64 p.i) := blk_cell KR rfl
  have r1 : WA.cell? ⟨W1.heap.size, 1, none⟩ = some (.int .u32 (p.s : Int)) := blk_cell KR rfl
  have r2 : WA.cell? ⟨W1.heap.size, 2, none⟩ = some (.int .i64 p.sl) := blk_cell KR rfl
  have r3 : WA.cell? ⟨W1.heap.size, 3, none⟩ = some (.int .u32 (p.d : Int)) := blk_cell KR rfl
  have r4 : WA.cell? ⟨W1.heap.size, 4, none⟩ = some (.int .i64 p.dl) := blk_cell KR rfl
  have r5 : WA.cell? ⟨W1.heap.size, 5, none⟩ = some (.int .u16 (p.p.1 : Int)) := blk_cell KR rfl
  have r6 : WA.cell? ⟨W1.heap.size, 6, none⟩ = some (.int .u16 (p.p.2 : Int)) := blk_cell KR rfl
  have r7 : WA.cell? ⟨W1.heap.size, 7, none⟩ = some (.int .u16 (p.q.1 : Int)) := blk_cell KR rfl
  have r8 : WA.cell? ⟨W1.heap.size, 8, none⟩ = some (.int .u16 (p.q.2 : Int)) := blk_cell KR rfl
  have r9 : WA.cell? ⟨W1.heap.size, 9, none⟩ = some (.int .u8 (p.m.1 : Int)) := blk_cell KR rfl
  have r10 : WA.cell? ⟨W1.heap.size, 10, none⟩ = some (.int .u8 (p.m.2 : Int)) := blk_cell KR rfl
  have r11 : WA.cell? ⟨W1.heap.size, 11, none⟩ = some (.int .i64 p.act) := blk_cell KR rfl
  have kne : Nonempty (Kin (WA)) := ⟨⟨_, Below.refl _ _⟩⟩
  have kc0 : ∀ y : Kin (WA), y.val.cell? ⟨w.heap.size + 1, 1, none⟩ = some (.int .i64 (q : Int)) := fun y => by rw [kin_cell (by first | omega | (simp <;> omega))]; first | assumption | (simp [go_sem]; done) | simp [go_sem, *]
  have kc1 : ∀ y : Kin (WA), y.val.cell? ⟨W1.heap.size, 0, none⟩ = some (.int .i64 p.i) := fun y => by rw [kin_cell (by first | omega | (simp <;> omega))]; first | assumption | (simp [go_sem]; done) | simp [go_sem, *]
  have kc2 : ∀ y : Kin (WA), y.val.cell? ⟨W1.heap.size, 1, none⟩ = some (.int .u32 (p.s : Int)) := fun y => by rw [kin_cell (by first | omega | (simp <;> omega))]; first | assumption | (simp [go_sem]; done) | simp [go_sem, *]
  have kc3 : ∀ y : Kin (WA), y.val.cell? ⟨W1.heap.size, 2, none⟩ = some (.int .i64 p.sl) := fun y => by rw [kin_cell (by first | omega | (simp <;> omega))]; first | assumption | (simp [go_sem]; done) | simp [go_sem, *]
  have kc4 : ∀ y : Kin (WA), y.val.cell? ⟨W1.heap.size, 3, none⟩ = some (.int .u32 (p.d : Int)) := fun y => by rw [kin_cell (by first | omega | (simp <;> omega))]; first | assumption | (simp [go_sem]; done) | simp [go_sem, *]
  have kc5 : ∀ y : Kin (WA), y.val.cell? ⟨W1.heap.size, 4, none⟩ = some (.int .i64 p.dl) := fun y => by rw [kin_cell (by first | omega | (simp <;> omega))]; first | assumption | (simp [go_sem]; done) | simp [go_sem, *]
  have kc6 : ∀ y : Kin (WA), y.val.cell? ⟨W1.heap.size, 5, none⟩ = some (.int .u16 (p.p.1 : Int)) := fun y => by rw [kin_cell (by first | omega | (simp <;> omega))]; first | assumption | (simp [go_sem]; done) | simp [go_sem, *]
  have kc7 : ∀ y : Kin (WA), y.val.cell? ⟨W1.heap.size, 6, none⟩ = some (.int .u16 (p.p.2 : Int)) := fun y => by rw [kin_cell (by first | omega | (simp <;> omega))]; first | assumption | (simp [go_sem]; done) | simp [go_sem, *]
  have kc8 : ∀ y : Kin (WA), y.val.cell? ⟨W1.heap.size, 7, none⟩ = some (.int .u16 (p.q.1 : Int)) := fun y => by rw [kin_cell (by first | omega | (simp <;> omega))]; first | assumption | (simp [go_sem]; done) | simp [go_sem, *]
  have kc9 : ∀ y : Kin (WA), y.val.cell? ⟨W1.heap.size, 8, none⟩ = some (.int .u16 (p.q.2 : Int)) := fun y => by rw [kin_cell (by first | omega | (simp <;> omega))]; first | assumption | (simp [go_sem]; done) | simp [go_sem, *]
  have kc10 : ∀ y : Kin (WA), y.val.cell? ⟨W1.heap.size, 9, none⟩ = some (.int .u8 (p.m.1 : Int)) := fun y => by rw [kin_cell (by first | omega | (simp <;> omega))]; first | assumption | (simp [go_sem]; done) | simp [go_sem, *]
  have kc11 : ∀ y : Kin (WA), y.val.cell? ⟨W1.heap.size, 10, none⟩ = some (.int .u8 (p.m.2 : Int)) := fun y => by rw [kin_cell (by first | omega | (simp <;> omega))]; first | assumption | (simp [go_sem]; done) | simp [go_sem, *]
  have kc12 : ∀ y : Kin (WA), y.val.cell? ⟨W1.heap.size, 11, none⟩ = some (.int .i64 p.act) := fun y => by rw [kin_cell (by first | omega | (simp <;> omega))]; first | assumption | (simp [go_sem]; done) | simp [go_sem, *]
  have kc13 : ∀ y : Kin (WA), y.val.cell? ⟨g, off + q * 12, none⟩ = some (.int .i64 p.i) := fun y => by rw [kin_cell (by first | omega | (simp <;> omega))]; first | assumption | (simp [go_sem]; done) | simp [go_sem, *]
  have kc14 : ∀ y : Kin (WA), y.val.cell? ⟨g, off + q * 12 + 1, none⟩ = some (.int .u32 (p.s : Int)) := fun y => by rw [kin_cell (by first | omega | (simp <;> omega))]; first | assumption | (simp [go_sem]; done) | simp [go_sem, *]
  have kc15 : ∀ y : Kin (WA), y.val.cell? ⟨g, off + q * 12 + 2, none⟩ = some (.int .i64 p.sl) := fun y => by rw [kin_cell (by first | omega | (simp <;> omega))]; first | assumption | (simp [go_sem]; done) | simp [go_sem, *]
  have kc16 : ∀ y : Kin (WA), y.val.cell? ⟨g, off + q * 12 + 3, none⟩ = some (.int .u32 (p.d : Int)) := fun y => by rw [kin_cell (by first | omega | (simp <;> omega))]; first | assumption | (simp [go_sem]; done) | simp [go_sem, *]
  have kc17 : ∀ y : Kin (WA), y.val.cell? ⟨g, off + q * 12 + 4, none⟩ = some (.int .i64 p.dl) := fun y => by rw [kin_cell (by first | omega | (simp <;> omega))]; first | assumption | (simp [go_sem]; done) | simp [go_sem, *]
  have kc18 : ∀ y : Kin (WA), y.val.cell? ⟨g, off + q * 12 + 5, none⟩ = some (.int .u16 (p.p.1 : Int)) := fun y => by rw [kin_cell (by first | omega | (simp <;> omega))]; first | assumption | (simp [go_sem]; done) | simp [go_sem, *]
  have kc19 : ∀ y : Kin (WA), y.val.cell? ⟨g, off + q * 12 + 6, none⟩ = some (.int .u16 (p.p.2 : Int)) := fun y => by rw [kin_cell (by first | omega | (simp <;> omega))]; first | assumption | (simp [go_sem]; done) | simp [go_sem, *]
  have kc20 : ∀ y : Kin (WA), y.val.cell? ⟨g, off + q * 12 + 7, none⟩ = some (.int .u16 (p.q.1 : Int)) := fun y => by rw [kin_cell (by first | omega | (simp <;> omega))]; first | assumption | (simp [go_sem]; done) | simp [go_sem, *]
  have kc21 : ∀ y : Kin (WA), y.val.cell? ⟨g, off + q * 12 + 8, none⟩ = some (.int .u16 (p.q.2 : Int)) := fun y => by rw [kin_cell (by first | omega | (simp <;> omega))]; first | assumption | (simp [go_sem]; done) | simp [go_sem, *]
  have kc22 : ∀ y : Kin (WA), y.val.cell? ⟨g, off + q * 12 + 9, none⟩ = some (.int .u8 (p.m.1 : Int)) := fun y => by rw [kin_cell (by first | omega | (simp <;> omega))]; first | assumption | (simp [go_sem]; done) | simp [go_sem, *]
  have kc23 : ∀ y : Kin (WA), y.val.cell? ⟨g, off + q * 12 + 10, none⟩ = some (.int .u8 (p.m.2 : Int)) := fun y => by rw [kin_cell (by first | omega | (simp <;> omega))]; first | assumption | (simp [go_sem]; done) | simp [go_sem, *]
  have kc24 : ∀ y : Kin (WA), y.val.cell? ⟨g, off + q * 12 + 11, none⟩ = some (.int .i64 p.act) := fun y => by rw [kin_cell (by first | omega | (simp <;> omega))]; first | assumption | (simp [go_sem]; done) | simp [go_sem, *]
  refine wp_region_kin (WA) (Below.refl _ _) (by kernel_rfl) (by kernel_rfl) ?_
  repeat (go_big_quiet_step (fail))
  refine wpQuiet_nil ?_
  rintro wq ⟨⟨xq, hxq⟩, hyq⟩
  have hq : Below (WA).heap.size (WA) wq := by rw [hyq]; exact hxq
  clear hyq hxq xq
  clear kne kc0 kc1 kc2 kc3 kc4 kc5 kc6 kc7 kc8 kc9 kc10 kc11 kc12 kc13 kc14 kc15 kc16 kc17 kc18 kc19 kc20 kc21 kc22 kc23 kc24
  obtain ⟨hcq, hfq⟩ := bcell hq
  have hzq := hq.size
  try simp at hzq
  have HF : Hid (StepPost w t v c.m c.a L (.returned (.tuple #[.slice (some ⟨g, off, none⟩) n cap, .bool true])) wq) := HF0.out _ (HBA.out.trans (hq.mono HBA.out.size))
  clear hq hcq hfq hzq HBA HF0 KR HDA hEq x1 r0 r1 r2 r3 r4 r5 r6 r7 r8 r9 r10 r11 y0 y1 y2 y3 y4 y5 y6 y7 y8 y9 y10 y11
  go_wp2_with (fail)
  refine bodyPost_ret (v := .tuple #[.slice (some ⟨g, off, none⟩) n cap, .bool true]) (by simp [results, Try.results14, go_sem]) rfl ?_
  exact HF.out
set_option maxRecDepth 100000 in
set_option maxHeartbeats 8000000 in
theorem step4C (t : Nat) (v : Value) (L : List Ru) (u : Value) (c : Cf) (o : Opp) (w0 w : World) (hT : Tab w t v c.m c.a L) (hD : Dj w t v u L) (hL : L.length ≤ 100000) (hbd : ∀ R ∈ L, BdR R) (hM : I64 c.m) (hB : Below w0.heap.size w0 w) (ht0 : w0.heap.size ≤ t) (hv0 : ∀ k, v.ownBlock = some k → w0.heap.size ≤ k) (hO : BdO w0 o) (hol : o.l.length ≤ 2000) (hk : o.k = 4) :
    Calls Try.prog 14 #[.pointer (some ⟨t, 0, none⟩), u, .agg #[.int .i64 c.m, .int .i64 c.a, .int .i64 c.p, .int .i64 c.g, .int .i64 c.t, .int .i64 c.b, .int .i64 c.d], .agg (encO o).toArray] w fun e w' => StepPost w t v c.m c.a L e w' := by
  have hbU : Below w.heap.size w ((w.alloc (.cells #[.int .i64 c.m, .int .i64 c.a, .int .i64 c.p, .int .i64 c.g, .int .i64 c.t, .int .i64 c.b, .int .i64 c.d] 24)).alloc (.cells (encO o).toArray 47)) := ((Below.refl _ _).alloc (Nat.le_refl _) _).alloc (by simp) _
  have HTU : Hid (Tab ((w.alloc (.cells #[.int .i64 c.m, .int .i64 c.a, .int .i64 c.p, .int .i64 c.g, .int .i64 c.t, .int .i64 c.b, .int .i64 c.d] 24)).alloc (.cells (encO o).toArray 47)) t v c.m c.a L) := hT.on hbU
  have HDU : Hid (Dj ((w.alloc (.cells #[.int .i64 c.m, .int .i64 c.a, .int .i64 c.p, .int .i64 c.g, .int .i64 c.t, .int .i64 c.b, .int .i64 c.d] 24)).alloc (.cells (encO o).toArray 47)) t v u L) := hD.on hbU
  have hlt := hT.lt
  have hown : ∀ k, v.ownBlock = some k → k < w.heap.size := fun k e => hT.own e
  have KC : Hid (Kb ((w.alloc (.cells #[.int .i64 c.m, .int .i64 c.a, .int .i64 c.p, .int .i64 c.g, .int .i64 c.t, .int .i64 c.b, .int .i64 c.d] 24)).alloc (.cells (encO o).toArray 47)) t v w.heap.size (.cells #[.int .i64 c.m, .int .i64 c.a, .int .i64 c.p, .int .i64 c.g, .int .i64 c.t, .int .i64 c.b, .int .i64 c.d] 24)) := ⟨blk_alloc (blk_new w _) _, by omega, fun e => by have := hown _ e; omega⟩
  have KO : Hid (Kb ((w.alloc (.cells #[.int .i64 c.m, .int .i64 c.a, .int .i64 c.p, .int .i64 c.g, .int .i64 c.t, .int .i64 c.b, .int .i64 c.d] 24)).alloc (.cells (encO o).toArray 47)) t v (w.heap.size + 1) (.cells (encO o).toArray 47)) := ⟨by simpa using blk_new (w.alloc (.cells #[.int .i64 c.m, .int .i64 c.a, .int .i64 c.p, .int .i64 c.g, .int .i64 c.t, .int .i64 c.b, .int .i64 c.d] 24)) (.cells (encO o).toArray 47), by omega, fun e => by have := hown _ e; omega⟩
  have HMU : Hid (Moved w ((w.alloc (.cells #[.int .i64 c.m, .int .i64 c.a, .int .i64 c.p, .int .i64 c.g, .int .i64 c.t, .int .i64 c.b, .int .i64 c.d] 24)).alloc (.cells (encO o).toArray 47)) t v v) := Moved.of_below hbU
  have hUs : ((w.alloc (.cells #[.int .i64 c.m, .int .i64 c.a, .int .i64 c.p, .int .i64 c.g, .int .i64 c.t, .int .i64 c.b, .int .i64 c.d] 24)).alloc (.cells (encO o).toArray 47)).heap.size = w.heap.size + 1 + 1 := by simp
  have x0 : ((w.alloc (.cells #[.int .i64 c.m, .int .i64 c.a, .int .i64 c.p, .int .i64 c.g, .int .i64 c.t, .int .i64 c.b, .int .i64 c.d] 24)).alloc (.cells (encO o).toArray 47)).cell? ⟨w.heap.size + 1, 0, none⟩ = some (.int .i64 o.k) := blk_cell KO.out.1 rfl
  rw [hk] at x0
  have x20 : ((w.alloc (.cells #[.int .i64 c.m, .int .i64 c.a, .int .i64 c.p, .int .i64 c.g, .int .i64 c.t, .int .i64 c.b, .int .i64 c.d] 24)).alloc (.cells (encO o).toArray 47)).cell? ⟨w.heap.size + 1, 20, none⟩ = some (o.u) := blk_cell KO.out.1 rfl
  obtain ⟨hOs, hOb⟩ := hO.2.2.2.2.2
  have hbW : Below w0.heap.size w0 ((w.alloc (.cells #[.int .i64 c.m, .int .i64 c.a, .int .i64 c.p, .int .i64 c.g, .int .i64 c.t, .int .i64 c.b, .int .i64 c.d] 24)).alloc (.cells (encO o).toArray 47)) := hB.trans (hbU.mono (by have := hB.size; omega))
  have hLe := lendC o.u o.l _ (hOs.keep hbW) (by omega)
  have hSt := fun (x : Value) (W : World) (hT : Tab W t v c.m c.a L) (hs : SrcU W x o.l) => setC t v c.m c.a L x o.l W hT hs (by omega) hM (bd_at hOb)
  have hRs := fun (W : World) (hb : Below w0.heap.size w0 W) => rsetC o.u o.l c.m W (hOs.keep hb) (by omega) (bd_at hOb)
  have hBk := fun (x : Value) (g : Nat) (W : World) (hx : Lent W x o.l g) (hb : Below w0.heap.size w0 W) => backC o.u x o.l g W hx (hOs.keep hb) (by omega)
  have hCp := fun (W : World) (hb : Below w0.heap.size w0 W) => rcopyC o.u o.l W (hOs.keep hb) (by omega)
  obtain ⟨E, hE⟩ : ∃ E, E = setE o.l c.m := ⟨_, rfl⟩
  rw [← hE] at hSt hRs
  have HBW : Hid (Below w0.heap.size w0 ((w.alloc (.cells #[.int .i64 c.m, .int .i64 c.a, .int .i64 c.p, .int .i64 c.g, .int .i64 c.t, .int .i64 c.b, .int .i64 c.d] 24)).alloc (.cells (encO o).toArray 47))) := hbW
  have hDu : ∀ k, u.ownBlock = some k → k < w.heap.size := fun k e => (hD.2 k e).1
  clear hE hO hT hD hbU hbW hOs
  go_enter Try.func14, Try.ntmps14
  go_wp2_with (fail)
  refine hLe.mono ?_
  rintro e W1 ⟨x, g, rfl, hl1, hg1, hg2, hb1⟩
  have HL1 : Hid (Lent W1 x o.l g) := hl1
  have HB1 : Hid (Below w0.heap.size w0 W1) := HBW.out.trans (hb1.mono HBW.out.size)
  have HT1 : Hid (Tab W1 t v c.m c.a L) := HTU.out.on hb1
  have HD1 : Hid (Dj W1 t v u L) := HDU.out.on hb1
  have HM1 : Hid (Moved w W1 t v v) := HMU.out.trans (Moved.of_below hb1)
  have KC1 : Hid (Kb W1 t v w.heap.size (.cells #[.int .i64 c.m, .int .i64 c.a, .int .i64 c.p, .int .i64 c.g, .int .i64 c.t, .int .i64 c.b, .int .i64 c.d] 24)) := KC.out.on hb1
  have KO1 : Hid (Kb W1 t v (w.heap.size + 1) (.cells (encO o).toArray 47)) := KO.out.on hb1
  have hg0 : w.heap.size + 1 < g := by omega
  have hS1 := hSt x W1 HT1.out HL1.out.src
  clear hLe hSt hl1 hb1 HTU HDU HMU KC KO HBW x0 x20 hg1
  go_wp2_with (fail)
  refine hS1.mono ?_
  rintro e W2 ⟨rfl, v2, hT2, hm2⟩
  have hT2' : Tab W2 t v2 c.m c.a (if E = 0 then o.l else L) := hT2
  have HT2 : Hid (Tab W2 t v2 c.m c.a (if E = 0 then o.l else L)) := hT2
  have HM2 : Hid (Moved w W2 t v v2) := HM1.out.trans hm2
  have HD2 : Hid (Dj W2 t v2 u L) := HD1.out.moved hm2
  have KC2 : Hid (Kb W2 t v2 w.heap.size (.cells #[.int .i64 c.m, .int .i64 c.a, .int .i64 c.p, .int .i64 c.g, .int .i64 c.t, .int .i64 c.b, .int .i64 c.d] 24)) := KC1.out.moved hm2
  have KO2 : Hid (Kb W2 t v2 (w.heap.size + 1) (.cells (encO o).toArray 47)) := KO1.out.moved hm2
  have HB2 : Hid (Below w0.heap.size w0 W2) := hm2.below' HB1.out HB1.out.size ht0 hv0
  have hgv : v.ownBlock ≠ some g := fun e => by have := hown _ e; omega
  have HL2 : Hid (Lent W2 x o.l g) := ⟨HL1.out.1, rowU_stay HL1.out.2 (fun k e => by cases e; exact hm2.block g hg2 (by omega) hgv)⟩
  have hgv2 : v2.ownBlock ≠ some g := fun e => by
    rcases hm2.own g e with h1 | h1
    · exact hgv h1
    · omega
  have x20 : W2.cell? ⟨w.heap.size + 1, 20, none⟩ = some o.u := blk_cell KO2.out.1 rfl
  have hB3 := hBk x g W2 HL2.out HB2.out
  clear hS1 hBk hT2 hT2' hm2 HL1 HT1 HD1 HM1 KC1 KO1 HB1
  go_wp2_with (fail)
  refine hB3.mono ?_
  rintro e W3 ⟨rfl, hg⟩
  have HT3 : Hid (Tab W3 t v2 c.m c.a (if E = 0 then o.l else L)) := HT2.out.grownG hg (by omega) hgv2
  have HD3 : Hid (Dj W3 t v2 u L) := HD2.out.grown hg (fun e => by have := hDu _ e; omega)
  have HM3 : Hid (Moved w W3 t v v2) := HM2.out.grown hg (by omega)
  have KC3 : Hid (W3.heap[w.heap.size]? = some (.cells #[.int .i64 c.m, .int .i64 c.a, .int .i64 c.p, .int .i64 c.g, .int .i64 c.t, .int .i64 c.b, .int .i64 c.d] 24)) := by show _ = _; rw [hg.block _ KC2.out.lt (by simp; omega)]; exact KC2.out.1
  have KO3 : Hid (W3.heap[w.heap.size + 1]? = some (.cells (encO o).toArray 47)) := by show _ = _; rw [hg.block _ KO2.out.lt (by simp; omega)]; exact KO2.out.1
  have HB3 : Hid (Below w0.heap.size w0 W3) := HB2.out.grown hg HB2.out.size (fun k e => by cases e; have := hB.size; omega)
  have h4 := hRs W3 HB3.out
  have x20' : W3.cell? ⟨w.heap.size + 1, 20, none⟩ = some o.u := blk_cell KO3.out rfl
  have z0 : W3.cell? ⟨w.heap.size, 0, none⟩ = some (.int .i64 c.m) := blk_cell KC3.out rfl
  clear hB3 hRs hg x20 HT2 HD2 HM2 KC2 KO2 HB2 HL2
  go_wp2_with (fail)
  refine h4.mono ?_
  rintro e W4 ⟨rfl, hb4⟩
  have HT4 : Hid (Tab W4 t v2 c.m c.a (if E = 0 then o.l else L)) := HT3.out.on hb4
  have HD4 : Hid (Dj W4 t v2 u L) := HD3.out.on hb4
  have HM4 : Hid (Moved w W4 t v v2) := HM3.out.trans (Moved.of_below hb4)
  have KO4 : Hid (W4.heap[w.heap.size + 1]? = some (.cells (encO o).toArray 47)) := blk_on KO3.out hb4
  have HB4 : Hid (Below w0.heap.size w0 W4) := HB3.out.trans (hb4.mono HB3.out.size)
  clear h4 hb4 x20' z0 HT3 HD3 HM3 KC3 KO3 HB3
  by_cases hE0 : E = 0
  · subst hE0
    have hT5 : Tab W4 t v2 c.m c.a o.l := by have := HT4.out; rwa [if_pos rfl] at this
    have HT5 : Hid (Tab W4 t v2 c.m c.a o.l) := hT5
    have x20 : W4.cell? ⟨w.heap.size + 1, 20, none⟩ = some o.u := blk_cell KO4.out rfl
    have h5 := hCp W4 HB4.out
    clear hT5 HT4 hCp
    go_wp2_with (fail)
    refine h5.mono ?_
    rintro e W5 ⟨m, rfl, hr5, hb5⟩
    have HF : Hid (StepPost w t v c.m c.a L (.returned (.tuple #[m, .bool true])) W5) := ⟨m, v2, o.l, rfl, HT5.out.on hb5, Dj.row HT5.out hr5, HM4.out.trans (Moved.of_below hb5), .inr hol, hOb⟩
    clear h5 hr5 hb5 HT5 HM4 HD4 KO4 HB4 x20
    go_wp2_with (fail)
    refine bodyPost_ret (v := .tuple #[m, .bool true]) (by simp [results, Try.results14, go_sem]) rfl ?_
    exact HF.out
  · have hT5 : Tab W4 t v2 c.m c.a L := by have := HT4.out; rwa [if_neg hE0] at this
    have HF : Hid (StepPost w t v c.m c.a L (.returned (.tuple #[u, .bool true])) W4) := ⟨u, v2, L, rfl, hT5, HD4.out, HM4.out, .inl (Nat.le_succ _), hbd⟩
    clear hT5 HT4 hCp HM4 HD4 KO4 HB4
    go_wp2_with (fail)
    refine bodyPost_ret (v := .tuple #[u, .bool true]) (by simp [results, Try.results14, go_sem]) rfl ?_
    exact HF.out
theorem stepC (t : Nat) (v : Value) (L : List Ru) (u : Value) (c : Cf) (o : Opp) (w0 w : World) (hT : Tab w t v c.m c.a L) (hD : Dj w t v u L) (hL : L.length ≤ 100000) (hbd : ∀ R ∈ L, BdR R) (hM : I64 c.m) (hB : Below w0.heap.size w0 w) (ht0 : w0.heap.size ≤ t) (hv0 : ∀ k, v.ownBlock = some k → w0.heap.size ≤ k) (hO : BdO w0 o) (hol : o.l.length ≤ 2000) :
    Calls Try.prog 14 #[.pointer (some ⟨t, 0, none⟩), u, .agg #[.int .i64 c.m, .int .i64 c.a, .int .i64 c.p, .int .i64 c.g, .int .i64 c.t, .int .i64 c.b, .int .i64 c.d], .agg (encO o).toArray] w fun e w' => StepPost w t v c.m c.a L e w' := by
  by_cases h1 : o.k = 1
  · exact step1C t v L u c o w0 w hT hD hL hbd hM hB ht0 hv0 hO hol h1
  by_cases h2 : o.k = 2
  · exact step2C t v L u c o w0 w hT hD hL hbd hM hB ht0 hv0 hO hol h2
  by_cases h3 : o.k = 3
  · exact step3C t v L u c o w0 w hT hD hL hbd hM hB ht0 hv0 hO hol h3
  by_cases h4 : o.k = 4
  · exact step4C t v L u c o w0 w hT hD hL hbd hM hB ht0 hv0 hO hol h4
  by_cases h5 : o.k = 5
  · exact step5C t v L u c o w0 w hT hD hL hbd hM hB ht0 hv0 hO hol h5
  by_cases h6 : o.k = 6
  · by_cases hp : 0 ≤ o.p ∧ o.p ≤ (L.length : Int) - 1
    · exact step6i t v L u c o w0 w hT hD hL hbd hM hB ht0 hv0 hO hol h6 o.p.toNat (by omega) (by omega) _ rfl
    · exact step6o t v L u c o w0 w hT hD hL hbd hM hB ht0 hv0 hO hol h6 hp
  by_cases h7 : o.k = 7
  · exact step7C t v L u c o w0 w hT hD hL hbd hM hB ht0 hv0 hO hol h7
  refine step0C t v L u c o w0 w hT hD hL hbd hM hB ht0 hv0 hO hol (fun j j1 j7 => ?_)
  have : j = 1 ∨ j = 2 ∨ j = 3 ∨ j = 4 ∨ j = 5 ∨ j = 6 ∨ j = 7 := by omega
  rcases this with rfl | rfl | rfl | rfl | rfl | rfl | rfl <;> assumption
end Go.Proofs.Ytlghbcdahnjcpaa
