/-
  PkAM: TpA TpB TpS, one behind the other (tools/pack.py).
-/
import Derived.Test.YtfpmljgmfapoiaaGreatPkAJ
import Derived.Test.YtfpmljgmfapoiaaGreatPkAL
import Derived.Test.YtfpmljgmfapoiaaGreatPkAI
import Derived.Test.YtfpmljgmfapoiaaGreatPkAD
import Derived.Test.YtfpmljgmfapoiaaGreatPkAC
import Derived.Test.YtfpmljgmfapoiaaGreatPkAF
import Derived.Deep.MidRow
import Derived.Laws.MakeOwn
/-
  How a tuple cuts a header: cutAddr, cutPort, the methods of a tuple, cuts, header.
-/
namespace Go.Proofs.YtfpmljgmfapoiaaGreat
open Go.RowKit
set_option linter.unusedVariables false
set_option linter.unusedSimpArgs false

theorem cutP_div (x n : Nat) : cutP n x = x / 2 ^ (16 - n) * 2 ^ (16 - n) := by
  unfold cutP
  have := Nat.mod_add_div x (2 ^ (16 - n))
  rw [Nat.mul_comm (x / _)]
  omega
theorem cutP_le (x n : Nat) : cutP n x ≤ x := by unfold cutP; omega
theorem oA_lt {a : Nat} {n : Int} (ha : a < 4294967296) : Pf.oA a n < 4294967296 := by
  unfold Pf.oA; split
  · decide
  · exact Pf.ct_lt a _ ha
theorem cutH_ok {t : Tp} {h : Hd} (o : OkH h) : Hx.OkH (cutH t h) := by
  obtain ⟨h1, h2, h3, h4, h5⟩ := o
  refine ⟨oA_lt h1, oA_lt h2, ?_, ?_, ?_⟩
  · exact Nat.lt_of_le_of_lt (cutP_le _ _) h3
  · exact Nat.lt_of_le_of_lt (cutP_le _ _) h4
  · exact Nat.lt_of_le_of_lt Nat.and_le_left h5
set_option maxHeartbeats 1000000 in
theorem cutAddrC (a : Nat) (n : Int) (w : World) (ha : a < 4294967296) :
    Calls Tryz.prog 110 #[.int .u32 a, .int .i64 n] w fun e w' => e = .returned (.int .u32 (Pf.oA a n : Int)) ∧ Below w.heap.size w w' := by
  have ho := fun W => Pf.of_any a n W ha
  generalize Pf.oA a n = A at *
  generalize Pf.oN n = N at *
  generalize Pf.oE n = E at *
  go_enter Tryz.func110, Tryz.ntmps110
  go_wp2_with (fail)
  refine (ho _).mono ?_
  rintro e w1 ⟨rfl, hb1⟩
  have HB : Hid (Below w.heap.size w w1) := hb1
  clear hb1 ho
  go_wp2
  go_ret
  exact ⟨rfl, HB.out.alloc HB.out.size _⟩
set_option maxHeartbeats 1000000 in
theorem cutPortC (x n : Nat) (w : World) (hx : x < 65536) (hn : n ≤ 16) :
    Calls Tryz.prog 111 #[.int .u16 x, .int .i64 n] w fun e w' => e = .returned (.int .u16 (cutP n x : Int)) ∧ Below w.heap.size w w' := by
  have h0 : (0 : Int) ≤ (n : Int) := by omega
  have h1 : (n : Int) ≤ 16 := by omega
  have ht : (65535 : Int) / 2 ^ n = (Xp.mk (16 - n) : Int) := Xp.tail_int n hn
  have hA := Xp.andNot_mk x (16 - n) hx (by omega)
  rw [← cutP_div] at hA
  go_enter Tryz.func111, Tryz.ntmps111
  go_wp2
  go_ret
  exact ⟨rfl, Below.refl _ _⟩
set_option maxHeartbeats 1000000 in
theorem cutSrcC (t : Tp) (a : Nat) (w : World) (ha : a < 4294967296) :
    Calls Tryz.prog 99 #[.agg #[.int .i64 t.a, .int .i64 t.b, .int .i64 t.c, .int .i64 t.d, .int .u8 t.m], .int .u32 a] w fun e w' => e = .returned (.int .u32 (Pf.oA a t.a : Int)) ∧ Below w.heap.size w w' := by
  have hc := fun W => cutAddrC a t.a W ha
  generalize Pf.oA a t.a = A at *
  go_enter Tryz.func99, Tryz.ntmps99
  go_wp2_with (fail)
  refine (hc _).mono ?_
  rintro e w1 ⟨rfl, hb1⟩
  have HB : Hid (Below w.heap.size w w1) := ((Below.refl _ _).alloc (Nat.le_refl _) _).trans (hb1.mono (by simp))
  clear hb1 hc
  go_wp2
  go_ret
  exact ⟨rfl, HB.out⟩
set_option maxHeartbeats 1000000 in
theorem cutDstC (t : Tp) (a : Nat) (w : World) (ha : a < 4294967296) :
    Calls Tryz.prog 100 #[.agg #[.int .i64 t.a, .int .i64 t.b, .int .i64 t.c, .int .i64 t.d, .int .u8 t.m], .int .u32 a] w fun e w' => e = .returned (.int .u32 (Pf.oA a t.b : Int)) ∧ Below w.heap.size w w' := by
  have hc := fun W => cutAddrC a t.b W ha
  generalize Pf.oA a t.b = A at *
  go_enter Tryz.func100, Tryz.ntmps100
  go_wp2_with (fail)
  refine (hc _).mono ?_
  rintro e w1 ⟨rfl, hb1⟩
  have HB : Hid (Below w.heap.size w w1) := ((Below.refl _ _).alloc (Nat.le_refl _) _).trans (hb1.mono (by simp))
  clear hb1 hc
  go_wp2
  go_ret
  exact ⟨rfl, HB.out⟩
set_option maxHeartbeats 1000000 in
theorem cutSportC (t : Tp) (x : Nat) (w : World) (hx : x < 65536) (hn : t.c ≤ 16) :
    Calls Tryz.prog 101 #[.agg #[.int .i64 t.a, .int .i64 t.b, .int .i64 t.c, .int .i64 t.d, .int .u8 t.m], .int .u16 x] w fun e w' => e = .returned (.int .u16 (cutP t.c x : Int)) ∧ Below w.heap.size w w' := by
  have hc := fun W => cutPortC x t.c W hx hn
  generalize cutP t.c x = A at *
  go_enter Tryz.func101, Tryz.ntmps101
  go_wp2_with (fail)
  refine (hc _).mono ?_
  rintro e w1 ⟨rfl, hb1⟩
  have HB : Hid (Below w.heap.size w w1) := ((Below.refl _ _).alloc (Nat.le_refl _) _).trans (hb1.mono (by simp))
  clear hb1 hc
  go_wp2
  go_ret
  exact ⟨rfl, HB.out⟩
set_option maxHeartbeats 1000000 in
theorem cutDportC (t : Tp) (x : Nat) (w : World) (hx : x < 65536) (hn : t.d ≤ 16) :
    Calls Tryz.prog 102 #[.agg #[.int .i64 t.a, .int .i64 t.b, .int .i64 t.c, .int .i64 t.d, .int .u8 t.m], .int .u16 x] w fun e w' => e = .returned (.int .u16 (cutP t.d x : Int)) ∧ Below w.heap.size w w' := by
  have hc := fun W => cutPortC x t.d W hx hn
  generalize cutP t.d x = A at *
  go_enter Tryz.func102, Tryz.ntmps102
  go_wp2_with (fail)
  refine (hc _).mono ?_
  rintro e w1 ⟨rfl, hb1⟩
  have HB : Hid (Below w.heap.size w w1) := ((Below.refl _ _).alloc (Nat.le_refl _) _).trans (hb1.mono (by simp))
  clear hb1 hc
  go_wp2
  go_ret
  exact ⟨rfl, HB.out⟩
set_option maxHeartbeats 1000000 in
theorem cutProtoC (t : Tp) (x : Nat) (w : World) (hx : x < 256) (hm : t.m < 256) :
    Calls Tryz.prog 103 #[.agg #[.int .i64 t.a, .int .i64 t.b, .int .i64 t.c, .int .i64 t.d, .int .u8 t.m], .int .u8 x] w fun e w' => e = .returned (.int .u8 ((x &&& t.m : Nat) : Int)) ∧ Below w.heap.size w w' := by
  have hA := u8_and_nat x t.m hx hm
  generalize (x &&& t.m) = A at *
  go_enter Tryz.func103, Tryz.ntmps103
  go_wp2
  go_ret
  exact ⟨rfl, (Below.refl _ _).alloc (Nat.le_refl _) _⟩
end Go.Proofs.YtfpmljgmfapoiaaGreat
/-
  cuts, and header: a header as a tuple cuts it.
-/
namespace Go.Proofs.YtfpmljgmfapoiaaGreat
open Go.RowKit
set_option linter.unusedVariables false
set_option linter.unusedSimpArgs false

set_option maxHeartbeats 2000000 in
theorem cutsC (t : Tp) (w : World) :
    Calls Tryz.prog 89 #[.agg #[.int .i64 t.a, .int .i64 t.b, .int .i64 t.c, .int .i64 t.d, .int .u8 t.m]] w fun e w' => e = .returned (.agg #[.func (.func 99) #[.agg #[.int .i64 t.a, .int .i64 t.b, .int .i64 t.c, .int .i64 t.d, .int .u8 t.m]] #[], .func (.func 100) #[.agg #[.int .i64 t.a, .int .i64 t.b, .int .i64 t.c, .int .i64 t.d, .int .u8 t.m]] #[], .func (.func 101) #[.agg #[.int .i64 t.a, .int .i64 t.b, .int .i64 t.c, .int .i64 t.d, .int .u8 t.m]] #[], .func (.func 102) #[.agg #[.int .i64 t.a, .int .i64 t.b, .int .i64 t.c, .int .i64 t.d, .int .u8 t.m]] #[], .func (.func 103) #[.agg #[.int .i64 t.a, .int .i64 t.b, .int .i64 t.c, .int .i64 t.d, .int .u8 t.m]] #[]]) ∧ Below w.heap.size w w' := by
  obtain ⟨a, b, c, d, m⟩ := t
  go_enter Tryz.func89, Tryz.ntmps89
  have hb : ((w.alloc (.cells #[.int .i64 a, .int .i64 b, .int .i64 c, .int .i64 d, .int .u8 m] 144)).alloc (.cells #[.nilFunc, .nilFunc, .nilFunc, .nilFunc, .nilFunc] 124)).heap[w.heap.size + 1]? = some (.cells #[.nilFunc, .nilFunc, .nilFunc, .nilFunc, .nilFunc] 124 (0, 0)) := by
    rw [show w.heap.size + 1 = (w.alloc (.cells #[.int .i64 a, .int .i64 b, .int .i64 c, .int .i64 d, .int .u8 m] 144)).heap.size by simp]
    exact blk_new _ _
  go_wp2_with (refine wpList_store_blk rfl 124 (.tmp 2) (.tmp 13) rfl (w.heap.size + 1) 0 #[.func (.func 99) #[.agg #[.int .i64 a, .int .i64 b, .int .i64 c, .int .i64 d, .int .u8 m]] #[], .func (.func 100) #[.agg #[.int .i64 a, .int .i64 b, .int .i64 c, .int .i64 d, .int .u8 m]] #[], .func (.func 101) #[.agg #[.int .i64 a, .int .i64 b, .int .i64 c, .int .i64 d, .int .u8 m]] #[], .func (.func 102) #[.agg #[.int .i64 a, .int .i64 b, .int .i64 c, .int .i64 d, .int .u8 m]] #[], .func (.func 103) #[.agg #[.int .i64 a, .int .i64 b, .int .i64 c, .int .i64 d, .int .u8 m]] #[]] #[.func (.func 99) #[.agg #[.int .i64 a, .int .i64 b, .int .i64 c, .int .i64 d, .int .u8 m]] #[], .func (.func 100) #[.agg #[.int .i64 a, .int .i64 b, .int .i64 c, .int .i64 d, .int .u8 m]] #[], .func (.func 101) #[.agg #[.int .i64 a, .int .i64 b, .int .i64 c, .int .i64 d, .int .u8 m]] #[], .func (.func 102) #[.agg #[.int .i64 a, .int .i64 b, .int .i64 c, .int .i64 d, .int .u8 m]] #[], .func (.func 103) #[.agg #[.int .i64 a, .int .i64 b, .int .i64 c, .int .i64 d, .int .u8 m]] #[]] rfl rfl _ _ hb (Nat.le_of_ble_eq_true rfl) rfl (by kernel_rfl) rfl (fun w9 h9 ho9 => ?_))
  have HB : Hid (Below w.heap.size w w9) := (((Below.refl _ _).alloc (Nat.le_refl _) _).alloc (by simp) _).trans (ho9.below (by omega))
  exact bodyPost_ret (results_blk Tryz.results89 rfl h9 Tryz.underlying124 rfl (by kernel_rfl)) rfl ⟨rfl, HB.out⟩
set_option maxHeartbeats 4000000 in
set_option maxRecDepth 20000 in
theorem headerC (t : Tp) (h : Hd) (w : World) (o : OkH h) (bt : BdT t) :
    Calls Tryz.prog 50 #[.agg #[.func (.func 99) #[.agg #[.int .i64 t.a, .int .i64 t.b, .int .i64 t.c, .int .i64 t.d, .int .u8 t.m]] #[], .func (.func 100) #[.agg #[.int .i64 t.a, .int .i64 t.b, .int .i64 t.c, .int .i64 t.d, .int .u8 t.m]] #[], .func (.func 101) #[.agg #[.int .i64 t.a, .int .i64 t.b, .int .i64 t.c, .int .i64 t.d, .int .u8 t.m]] #[], .func (.func 102) #[.agg #[.int .i64 t.a, .int .i64 t.b, .int .i64 t.c, .int .i64 t.d, .int .u8 t.m]] #[], .func (.func 103) #[.agg #[.int .i64 t.a, .int .i64 t.b, .int .i64 t.c, .int .i64 t.d, .int .u8 t.m]] #[]], .agg #[.int .u32 h.s, .int .u32 h.d, .int .u16 h.p, .int .u16 h.q, .int .u8 h.r]] w fun e w' => e = .returned (.agg #[.int .u32 (((cutH t h)).s : Int), .int .u32 (((cutH t h)).d : Int), .int .u16 (((cutH t h)).p : Int), .int .u16 (((cutH t h)).q : Int), .int .u8 (((cutH t h)).r : Int)]) ∧ Below w.heap.size w w' := by
  have c1 := fun W => cutSrcC t h.s W o.1
  have c2 := fun W => cutDstC t h.d W o.2.1
  have c3 := fun W => cutSportC t h.p W o.2.2.1 bt.2.2.2.2.1
  have c4 := fun W => cutDportC t h.q W o.2.2.2.1 bt.2.2.2.2.2.1
  have c5 := fun W => cutProtoC t h.r W o.2.2.2.2 bt.2.2.2.2.2.2
  show Calls _ _ _ _ fun e w' => e = .returned (.agg #[.int .u32 (Pf.oA h.s t.a : Int), .int .u32 (Pf.oA h.d t.b : Int), .int .u16 (cutP t.c h.p : Int), .int .u16 (cutP t.d h.q : Int), .int .u8 ((h.r &&& t.m : Nat) : Int)]) ∧ _
  generalize Pf.oA h.s t.a = A1 at *
  generalize Pf.oA h.d t.b = A2 at *
  generalize cutP t.c h.p = A3 at *
  generalize cutP t.d h.q = A4 at *
  generalize (h.r &&& t.m) = A5 at *
  obtain ⟨T, hT⟩ : ∃ T : Value, T = .agg #[.int .i64 t.a, .int .i64 t.b, .int .i64 t.c, .int .i64 t.d, .int .u8 t.m] := ⟨_, rfl⟩
  rw [← hT] at c1 c2 c3 c4 c5 ⊢
  clear hT
  go_enter Tryz.func50, Tryz.ntmps50
  go_wp2_with (fail)
  obtain ⟨W, hW⟩ : ∃ W, W = ((w.alloc (.cells #[.func (.func 99) #[T] #[], .func (.func 100) #[T] #[], .func (.func 101) #[T] #[], .func (.func 102) #[T] #[], .func (.func 103) #[T] #[]] 124)).alloc (.cells #[.int .u32 h.s, .int .u32 h.d, .int .u16 h.p, .int .u16 h.q, .int .u8 h.r] 54)).alloc (.cells #[.int .u32 0, .int .u32 0, .int .u16 0, .int .u16 0, .int .u8 0] 54) := ⟨_, rfl⟩
  have hsz : W.heap.size = w.heap.size + 3 := by rw [hW]; simp
  have hbW : Below w.heap.size w W := by rw [hW]; (repeat (first | assumption | exact Below.refl _ _ | refine Below.drew ?_ | refine bel_drewN ?_ _ | refine Below.setCell ?_ (by first | omega | (simp; done) | (simp; omega)) _ | refine Below.alloc ?_ (by first | omega | (simp; done) | (simp; omega)) _ | refine bel_of ?_ (by assumption)))
  have hres : W.heap[w.heap.size + 2]? = some (.cells #[.int .u32 0, .int .u32 0, .int .u16 0, .int .u16 0, .int .u8 0] 54 (0, 0)) := by
    rw [hW, show w.heap.size + 2 = ((w.alloc (.cells #[.func (.func 99) #[T] #[], .func (.func 100) #[T] #[], .func (.func 101) #[T] #[], .func (.func 102) #[T] #[], .func (.func 103) #[T] #[]] 124)).alloc (.cells #[.int .u32 h.s, .int .u32 h.d, .int .u16 h.p, .int .u16 h.q, .int .u8 h.r] 54)).heap.size by simp]
    exact blk_new _ _
  have k0 : ∀ y : Kin W, y.val.cell? ⟨w.heap.size, 0, none⟩ = some (.func (.func 99) #[T] #[]) := fun y => by rw [kin_cell (by show w.heap.size < _; omega), hW]; simp [go_sem]
  have k1 : ∀ y : Kin W, y.val.cell? ⟨w.heap.size, 1, none⟩ = some (.func (.func 100) #[T] #[]) := fun y => by rw [kin_cell (by show w.heap.size < _; omega), hW]; simp [go_sem]
  have k2 : ∀ y : Kin W, y.val.cell? ⟨w.heap.size, 2, none⟩ = some (.func (.func 101) #[T] #[]) := fun y => by rw [kin_cell (by show w.heap.size < _; omega), hW]; simp [go_sem]
  have k3 : ∀ y : Kin W, y.val.cell? ⟨w.heap.size, 3, none⟩ = some (.func (.func 102) #[T] #[]) := fun y => by rw [kin_cell (by show w.heap.size < _; omega), hW]; simp [go_sem]
  have k4 : ∀ y : Kin W, y.val.cell? ⟨w.heap.size, 4, none⟩ = some (.func (.func 103) #[T] #[]) := fun y => by rw [kin_cell (by show w.heap.size < _; omega), hW]; simp [go_sem]
  have m0 : ∀ y : Kin W, y.val.cell? ⟨w.heap.size + 1, 0, none⟩ = some (.int .u32 h.s) := fun y => by rw [kin_cell (by show w.heap.size + 1 < _; omega), hW]; simp [go_sem]
  have m1 : ∀ y : Kin W, y.val.cell? ⟨w.heap.size + 1, 1, none⟩ = some (.int .u32 h.d) := fun y => by rw [kin_cell (by show w.heap.size + 1 < _; omega), hW]; simp [go_sem]
  have m2 : ∀ y : Kin W, y.val.cell? ⟨w.heap.size + 1, 2, none⟩ = some (.int .u16 h.p) := fun y => by rw [kin_cell (by show w.heap.size + 1 < _; omega), hW]; simp [go_sem]
  have m3 : ∀ y : Kin W, y.val.cell? ⟨w.heap.size + 1, 3, none⟩ = some (.int .u16 h.q) := fun y => by rw [kin_cell (by show w.heap.size + 1 < _; omega), hW]; simp [go_sem]
  have m4 : ∀ y : Kin W, y.val.cell? ⟨w.heap.size + 1, 4, none⟩ = some (.int .u8 h.r) := fun y => by rw [kin_cell (by show w.heap.size + 1 < _; omega), hW]; simp [go_sem]
  rw [← hW]
  clear hW
  have kne : Nonempty (Kin W) := ⟨⟨_, Below.refl _ _⟩⟩
  refine wp_kin_last W (Below.refl _ _) (by simp) (by kernel_rfl) (by kernel_rfl) (by kernel_rfl) (by kernel_rfl) (by kernel_rfl) ?_
  simp only [List.dropLast]
  repeat (go_big_quiet_step (first | (go_at_call 99; exact kin_call (c1 _)) | (go_at_call 100; exact kin_call (c2 _)) | (go_at_call 101; exact kin_call (c3 _)) | (go_at_call 102; exact kin_call (c4 _)) | (go_at_call 103; exact kin_call (c5 _))))
  refine wpQuiet_nil ?_
  rintro wq ⟨⟨xq, hxq⟩, hyq⟩
  have hq : Below W.heap.size W wq := by rw [hyq]; exact hxq
  clear hyq hxq xq kne k0 k1 k2 k3 k4 m0 m1 m2 m3 m4
  have hres2 := blk_on hres hq
  refine wp_store_blk 54 (.tmp 4) (.tmp 30) rfl (w.heap.size + 2) 0 #[.int .u32 A1, .int .u32 A2, .int .u16 A3, .int .u16 A4, .int .u8 A5] #[.int .u32 A1, .int .u32 A2, .int .u16 A3, .int .u16 A4, .int .u8 A5] rfl rfl _ _ hres2 (by simp) rfl (by kernel_rfl) rfl (fun w3 h3 ho3 => ?_)
  have HB : Hid (Below w.heap.size w w3) := (hbW.trans (hq.mono (by omega))).trans (ho3.below (by omega))
  clear hq hres hres2 hbW ho3
  go_wp2_with (fail)
  exact bodyPost_ret (results_blk Tryz.results50 rfl h3 Tryz.underlying54 rfl (by kernel_rfl)) rfl ⟨rfl, HB.out⟩
end Go.Proofs.YtfpmljgmfapoiaaGreat
/-
  spots: where a rule stands.
-/
namespace Go.Proofs.YtfpmljgmfapoiaaGreat
open Go.RowKit
set_option linter.unusedVariables false
set_option linter.unusedSimpArgs false

theorem run_makeO (w : World) (c : Nat) (hc : c ≤ 900) : (Instr.makeSlice 141 (.int .i64 0) (.int .i64 c)).run Tryz.prog w = .ok (.slice (some ⟨w.heap.size, 0, none⟩) 0 c) (w.alloc (.cells (madeCells #[.int .i64 0, .int .i64 0, .int .i64 0, .int .i64 0, .int .u8 0, .int .u32 0, .int .u32 0, .int .u16 0, .int .u16 0, .int .u8 0] (c * 10)) 146)) := by
  obtain ⟨i0, hi, hz0, hz1, hz2⟩ := info_parts infoO
  have hmk := run_make (P := Tryz.prog) w 141 146 i0 _ Tryz.underlying141 hi hz0 .i64 .i64 (0 : Int) (c : Int) (by omega) (by omega) (by rw [hz2]; omega) (by omega)
  simp only [hz1, show ((0 : Int)).toNat = 0 from rfl, show ((c : Int)).toNat = c by omega] at hmk
  exact hmk
theorem made_rowO (w : World) (c : Nat) (hc : c ≤ 900) : RowO (w.alloc (.cells (madeCells #[.int .i64 0, .int .i64 0, .int .i64 0, .int .i64 0, .int .u8 0, .int .u32 0, .int .u32 0, .int .u16 0, .int .u16 0, .int .u8 0] (c * 10)) 146)) w.heap.size (.slice (some ⟨w.heap.size, 0, none⟩) 0 c) [] :=
  ⟨rfl, .inr ⟨w.heap.size, c, _, rfl, Nat.le_refl _, blk_new w _, Nat.zero_le _, by unfold maxLen; omega, size_madeCells _ _, by simp [flatO]⟩⟩
/-- The spot of a rule with two of its stems. -/
def sp2 (R : Ru) (s t : Nat × Nat) : Spt := (⟨R.sl, R.dl, s.2, t.2, R.m.2⟩, ⟨R.s, R.d, s.1, t.1, R.m.1⟩)
def spK (R : Ru) (k : Nat) : List Spt := ((stm R.p).take k).flatMap fun s => (stm R.q).map fun t => sp2 R s t
theorem spK_all (R : Ru) : spK R (stm R.p).length = spR R := by unfold spK; rw [List.take_length]; rfl
theorem spK_step (R : Ru) {k : Nat} (h : k < (stm R.p).length) : spK R (k + 1) = spK R k ++ (stm R.q).map fun t => sp2 R (stm R.p)[k] t := by
  unfold spK; rw [List.take_succ_eq_append_getElem h, List.flatMap_append]; simp
theorem spK_len (R : Ru) (k : Nat) : (spK R k).length ≤ 30 * 30 := by
  unfold spK
  rw [List.length_flatMap]
  simp only [List.length_map]
  have h1 : ∀ l : List (Nat × Nat), (l.map fun _ => (stm R.q).length).sum = l.length * (stm R.q).length := fun l => by
    induction l with
    | nil => simp
    | cons a l ih => simp only [List.map_cons, List.sum_cons, ih, List.length_cons, Nat.add_mul]; omega
  rw [h1]
  refine Nat.mul_le_mul ?_ (Xp.ofS_len (lo := R.q.1) (hi := R.q.2))
  rw [List.length_take]
  have : (stm R.p).length ≤ 30 := Xp.ofS_len (lo := R.p.1) (hi := R.p.2)
  omega
theorem rowT_cells {w : World} {b : Nat} {ad : Option Addr} {n cap : Nat} {l : List (Nat × Nat)} (h : Xp.RowT w b (.slice ad n cap) l) : ∀ W, Below w.heap.size w W → ∀ k (hk : k < l.length), ∃ g, ad = some ⟨g, 0, none⟩ ∧ W.cell? ⟨g, k * 2, none⟩ = some (.int .u16 ((l[k]'hk).1 : Int)) ∧ W.cell? ⟨g, k * 2 + 1, none⟩ = some (.int .i64 ((l[k]'hk).2 : Int)) := fun W hb k hk => by
  obtain ⟨ad', cap', e, _, hf⟩ := h.form
  injection e with e1 _ _
  obtain ⟨g, e2, _, _, hc⟩ := hf (by omega)
  obtain ⟨h1, h2⟩ := hc k hk
  exact ⟨g, e1.trans e2, cell_on1 hb h1, cell_on1 hb h2⟩
theorem blk_gr {w w1 : World} {B : Nat} {o : Obj} {row : Option Nat} (h : w.heap[B]? = some o) (hg : w.grownBy w1 row) (hne : row ≠ some B) : w1.heap[B]? = some o := by
  rw [hg.block B (blk_lt h) (fun e => hne e.symm)]; exact h
set_option maxHeartbeats 8000000 in
set_option maxRecDepth 20000 in
theorem spotsC (R : Ru) (w : World) (b : BdR R) (o : okR R = true) :
    Calls Tryz.prog 65 #[.agg #[.int .i64 R.i, .int .u32 R.s, .int .i64 R.sl, .int .u32 R.d, .int .i64 R.dl, .int .u16 R.p.1, .int .u16 R.p.2, .int .u16 R.q.1, .int .u16 R.q.2, .int .u8 R.m.1, .int .u8 R.m.2, .int .i64 R.act]] w fun e w' => ∃ v' : Value, e = .returned v' ∧ RowO w' w.heap.size v' (spR R) ∧ Below w.heap.size w w' := by
  obtain ⟨_, _, _, o1, o2, _⟩ := (okR_iff R).1 o
  have o1' : R.p.1 ≤ R.p.2 := by unfold okI at o1; simpa using o1
  have o2' : R.q.1 ≤ R.q.2 := by unfold okI at o2; simpa using o2
  have hF := fun W => Xp.ofC R.p.1 R.p.2 W o1' b.2.2.2.1
  have hT := fun W => Xp.ofC R.q.1 R.q.2 W o2' b.2.2.2.2.2.1
  have hFl : (stm R.p).length ≤ 30 := Xp.ofS_len (lo := R.p.1) (hi := R.p.2)
  have hTl : (stm R.q).length ≤ 30 := Xp.ofS_len (lo := R.q.1) (hi := R.q.2)
  have HAll : Hid (spK R (stm R.p).length = spR R) := spK_all R
  have HFe : Hid (Xp.tl (Xp.hasB (R.p.1, R.p.2)) 16 0 = stm R.p) := rfl
  have HTe : Hid (Xp.tl (Xp.hasB (R.q.1, R.q.2)) 16 0 = stm R.q) := rfl
  have HSt : Hid (∀ k (h : k < (stm R.p).length), spK R (k + 1) = spK R k ++ (stm R.q).map fun t => sp2 R (stm R.p)[k] t) := fun k h => spK_step R h
  have HL : Hid (∀ k, (spK R k).length ≤ 900) := fun k => spK_len R k
  clear o o1 o2 o1' o2' b
  go_enter Tryz.func65, Tryz.ntmps65
  go_upto_region 1 with (fail)
  have HR0 : Hid ((w.alloc (.cells #[.int .i64 R.i, .int .u32 R.s, .int .i64 R.sl, .int .u32 R.d, .int .i64 R.dl, .int .u16 R.p.1, .int .u16 R.p.2, .int .u16 R.q.1, .int .u16 R.q.2, .int .u8 R.m.1, .int .u8 R.m.2, .int .i64 R.act] 52)).heap[w.heap.size]? = some (.cells #[.int .i64 R.i, .int .u32 R.s, .int .i64 R.sl, .int .u32 R.d, .int .i64 R.dl, .int .u16 R.p.1, .int .u16 R.p.2, .int .u16 R.q.1, .int .u16 R.q.2, .int .u8 R.m.1, .int .u8 R.m.2, .int .i64 R.act] 52)) := blk_new w _
  have HB0 : Hid (Below w.heap.size w (w.alloc (.cells #[.int .i64 R.i, .int .u32 R.s, .int .i64 R.sl, .int .u32 R.d, .int .i64 R.dl, .int .u16 R.p.1, .int .u16 R.p.2, .int .u16 R.q.1, .int .u16 R.q.2, .int .u8 R.m.1, .int .u8 R.m.2, .int .i64 R.act] 52))) := (Below.refl _ _).alloc (Nat.le_refl _) _
  obtain ⟨W0, hW0⟩ : ∃ W0, W0 = w.alloc (.cells #[.int .i64 R.i, .int .u32 R.s, .int .i64 R.sl, .int .u32 R.d, .int .i64 R.dl, .int .u16 R.p.1, .int .u16 R.p.2, .int .u16 R.q.1, .int .u16 R.q.2, .int .u8 R.m.1, .int .u8 R.m.2, .int .i64 R.act] 52) := ⟨_, rfl⟩
  have hz0 : W0.heap.size = w.heap.size + 1 := by rw [hW0]; simp
  rw [← hW0] at HR0 HB0 ⊢
  clear hW0
  obtain ⟨_, _, _, _, _, c5, c6, c7, c8, _, _, _⟩ := blk12 HR0.out
  go_wp2_with (fail)
  refine (hF _).mono ?_
  rintro e w1 ⟨v1, rfl, hr1, hb1⟩
  rw [HFe.out] at hr1
  have HR1 : Hid (w1.heap[w.heap.size]? = some (.cells #[.int .i64 R.i, .int .u32 R.s, .int .i64 R.sl, .int .u32 R.d, .int .i64 R.dl, .int .u16 R.p.1, .int .u16 R.p.2, .int .u16 R.q.1, .int .u16 R.q.2, .int .u8 R.m.1, .int .u8 R.m.2, .int .i64 R.act] 52)) := blk_on HR0.out hb1
  have HB1 : Hid (Below w.heap.size w w1) := HB0.out.trans (hb1.mono (by omega))
  have hz1 := hb1.size
  have HF1 : Hid (Xp.RowT w1 W0.heap.size v1 (stm R.p)) := hr1
  clear hF hr1 hb1 c5 c6 c7 c8 HR0 HB0
  obtain ⟨_, _, _, _, _, c5, c6, c7, c8, _, _, _⟩ := blk12 HR1.out
  obtain ⟨ad1, cap1, rfl, _, _⟩ := HF1.out.form
  go_wp2_with (fail)
  refine (hT _).mono ?_
  rintro e w2 ⟨v2, rfl, hr2, hb2⟩
  rw [HTe.out] at hr2
  have HR2 : Hid (w2.heap[w.heap.size]? = some (.cells #[.int .i64 R.i, .int .u32 R.s, .int .i64 R.sl, .int .u32 R.d, .int .i64 R.dl, .int .u16 R.p.1, .int .u16 R.p.2, .int .u16 R.q.1, .int .u16 R.q.2, .int .u8 R.m.1, .int .u8 R.m.2, .int .i64 R.act] 52)) := blk_on HR1.out hb2
  have HB2 : Hid (Below w.heap.size w w2) := HB1.out.trans (hb2.mono (by omega))
  have hz2 := hb2.size
  have HF2 : Hid (Xp.RowT w2 W0.heap.size (.slice ad1 (stm R.p).length cap1) (stm R.p)) := HF1.out.on hb2
  have HT2 : Hid (Xp.RowT w2 w1.heap.size v2 (stm R.q)) := hr2
  clear hT hr2 hb2 c5 c6 c7 c8 HR1 HB1 HF1 HFe HTe
  obtain ⟨ad2, cap2, rfl, _, _⟩ := HT2.out.form
  obtain ⟨n, hn⟩ : ∃ n, n = (stm R.p).length := ⟨_, rfl⟩
  obtain ⟨m, hm⟩ : ∃ m, m = (stm R.q).length := ⟨_, rfl⟩
  rw [← hn] at HAll HF2 hFl ⊢
  rw [← hm] at HT2 hTl ⊢
  have Hn : Hid (n = (stm R.p).length) := hn
  have Hm : Hid (m = (stm R.q).length) := hm
  clear hn hm
  have hnm : n * m ≤ 900 := Nat.mul_le_mul hFl hTl
  have HCF : Hid _ := rowT_cells HF2.out
  have HCT : Hid _ := rowT_cells HT2.out
  clear HF2 HT2
  obtain ⟨nm, hnm'⟩ : ∃ nm, nm = n * m := ⟨_, rfl⟩
  rw [← hnm'] at hnm
  have hw64 : wrap64 ((n : Int) * (m : Int)) = (nm : Int) := by
    rw [show (n : Int) * (m : Int) = (nm : Int) by rw [hnm']; simp]
    unfold wrap64; omega
  clear hnm'
  have hmk := run_makeO w2 nm hnm
  have HO3 : Hid _ := made_rowO w2 nm hnm
  have HB3 : Hid _ := (Below.refl w2.heap.size w2).alloc (Nat.le_refl _) (.cells (madeCells #[.int .i64 0, .int .i64 0, .int .i64 0, .int .i64 0, .int .u8 0, .int .u32 0, .int .u32 0, .int .u16 0, .int .u16 0, .int .u8 0] (nm * 10)) 146)
  generalize w2.alloc (.cells (madeCells #[.int .i64 0, .int .i64 0, .int .i64 0, .int .i64 0, .int .u8 0, .int .u32 0, .int .u32 0, .int .u16 0, .int .u16 0, .int .u8 0] (nm * 10)) 146) = w3 at *
  go_wp2_with (fail)
  simp only [hw64]
  clear hw64 hmk
  go_loopw [7, 32] (fun vl vi wr => ∃ (k : Nat) (adV : Option Addr) (nV capV : Nat), k ≤ n ∧ vl = .slice adV nV capV ∧ vi = .int .i64 k ∧ Hid (RowO wr w2.heap.size (.slice adV nV capV) (spK R k)) ∧ Hid (Below w2.heap.size w2 wr)) (fun _ vi _ => n - (intOf vi).toNat)
  case atStart => exact ⟨0, _, _, _, Nat.zero_le _, rfl, rfl, HO3.out, HB3.out⟩
  case round =>
    obtain ⟨k, adV, nV, capV, hk, rfl, rfl, HV, HBr⟩ := hrel
    clear HO3 HB3
    by_cases hlt : k < n
    · have hlti : (k : Int) < (n : Int) := by omega
      have hkl : k < (stm R.p).length := by rw [← Hn.out]; exact hlt
      obtain ⟨gF, rfl, x0, x1⟩ := HCF.out wr HBr.out k hkl
      have HS1 : Hid _ := HSt.out k hkl
      obtain ⟨s, hs⟩ : ∃ s, s = (stm R.p)[k] := ⟨_, rfl⟩
      rw [← hs] at x0 x1 HS1
      clear hs
      have HBs : Hid ((wr.alloc (.cells #[.int .u16 s.1, .int .i64 s.2] 173)).heap[wr.heap.size]? = some (.cells #[.int .u16 s.1, .int .i64 s.2] 173 (0, 0))) := blk_new _ _
      have HVs : Hid (RowO (wr.alloc (.cells #[.int .u16 s.1, .int .i64 s.2] 173)) w2.heap.size (.slice adV nV capV) (spK R k ++ ((stm R.q).take 0).map (sp2 R s))) := by
        show RowO _ _ _ _
        rw [List.take_zero, List.map_nil, List.append_nil]; exact HV.out.alloc _
      have HBe : Hid (Below w2.heap.size w2 (wr.alloc (.cells #[.int .u16 s.1, .int .i64 s.2] 173))) := HBr.out.alloc HBr.out.size _
      have HNe : Hid ((Value.slice adV nV capV).ownBlock ≠ some wr.heap.size) := fun e => by have := (HV.out.lt _ e).2; omega
      obtain ⟨B, hB⟩ : ∃ B, B = wr.heap.size := ⟨_, rfl⟩
      have HBw : Hid (w2.heap.size ≤ B) := by rw [hB]; exact HBr.out.size
      go_wp2_with (fail)
      rw [← hB]
      rw [← hB] at HBs HNe
      generalize wr.alloc (.cells #[.int .u16 s.1, .int .i64 s.2] 173) = W1 at *
      clear HV HBr x0 x1 hB
      go_loopw [7, 38] (fun vl vj wx => ∃ (j : Nat) (adx : Option Addr) (nx capx : Nat), j ≤ m ∧ vl = .slice adx nx capx ∧ vj = .int .i64 j ∧ Hid (RowO wx w2.heap.size (.slice adx nx capx) (spK R k ++ ((stm R.q).take j).map (sp2 R s))) ∧ Hid (Below w2.heap.size w2 wx) ∧ Hid (wx.heap[B]? = some (.cells #[.int .u16 s.1, .int .i64 s.2] 173 (0, 0))) ∧ Hid ((Value.slice adx nx capx).ownBlock ≠ some B)) (fun _ vj _ => m - (intOf vj).toNat)
      case atStart => exact ⟨0, _, _, _, Nat.zero_le _, rfl, rfl, HVs.out, HBe.out, HBs.out, HNe.out⟩
      case round =>
        obtain ⟨j, adx, nx, capx, hj, rfl, rfl, HX, HBx, HSx, HNx⟩ := hrel
        clear HVs HBe HBs HNe
        by_cases hjt : j < m
        · have hjti : (j : Int) < (m : Int) := by omega
          have hjl : j < (stm R.q).length := by rw [← Hm.out]; exact hjt
          obtain ⟨gT, rfl, y0, y1⟩ := HCT.out wr HBx.out j hjl
          have HTk : Hid (((stm R.q).take (j + 1)).map (sp2 R s) = ((stm R.q).take j).map (sp2 R s) ++ [sp2 R s (stm R.q)[j]]) := by
            show _ = _
            rw [List.take_succ_eq_append_getElem hjl, List.map_append]; rfl
          obtain ⟨t, ht⟩ : ∃ t, t = (stm R.q)[j] := ⟨_, rfl⟩
          rw [← ht] at y0 y1 HTk
          clear ht
          have hlx : (spK R k ++ ((stm R.q).take j).map (sp2 R s)).length ≤ 1000 := by
            have := HL.out k
            rw [List.length_append, List.length_map, List.length_take]; omega
          have Hlx : Hid _ := hlx
          obtain ⟨W2, hW2⟩ : ∃ W2, W2 = wr.alloc (.cells #[.int .u16 t.1, .int .i64 t.2] 173) := ⟨_, rfl⟩
          have HZ2 : Hid (W2.heap.size = wr.heap.size + 1) := by show _ = _; rw [hW2]; simp
          have HBt : Hid (W2.heap[wr.heap.size]? = some (.cells #[.int .u16 t.1, .int .i64 t.2] 173 (0, 0))) := by show _ = _; rw [hW2]; exact blk_new _ _
          have hbW2 : Below wr.heap.size wr W2 := by rw [hW2]; exact (Below.refl _ _).alloc (Nat.le_refl _) _
          have HX2 : Hid (RowO W2 w2.heap.size (.slice adx nx capx) (spK R k ++ ((stm R.q).take j).map (sp2 R s))) := HX.out.on hbW2
          have HBx2 : Hid (Below w2.heap.size w2 W2) := HBx.out.trans (hbW2.mono HBx.out.size)
          have HSx2 : Hid _ := blk_on HSx.out hbW2
          have HRx : Hid _ := blk_on HR2.out HBx2.out
          obtain ⟨r0, r1, r2, r3, r4, r5, r6, r7, r8, r9, r10, r11⟩ := blk12 HRx.out
          obtain ⟨s0, s1⟩ := blk2 HSx2.out
          obtain ⟨t0, t1⟩ := blk2 HBt.out
          have HBlt : Hid (B < wr.heap.size) := blk_lt HSx.out
          clear HX HBx HSx hbW2
          go_upto_region 10 with (rw [← hW2])
          clear hW2
          go_wp2_with (at_builtin; go_loud (refine wpList_appendSO rfl (.tmp 42) (.tmp 72) rfl w2.heap.size (.slice adx nx capx) (spK R k ++ ((stm R.q).take j).map (sp2 R s)) rfl (HX2.out.alloc _) (.slice (some ⟨W2.heap.size, 0, none⟩) 1 1) [sp2 R s t] rfl (RowO.one W2 0 (sp2 R s t) (Nat.zero_le _)).src (by have := HBx2.out.size; simp; omega) (by have := Hlx.out; simp only [List.length_singleton]; omega) ?_); intro v5 w5 hr5 hg5 ho5)
          obtain ⟨ad5, n5, cap5, rfl⟩ : ∃ ad n cap, v5 = .slice ad n cap := by
            obtain ⟨ad, cap, e, _⟩ := hr5.form
            exact ⟨ad, _, cap, e⟩
          have HX5 : Hid (RowO w5 w2.heap.size (.slice ad5 n5 cap5) (spK R k ++ ((stm R.q).take (j + 1)).map (sp2 R s))) := by
            show RowO _ _ _ _
            rw [HTk.out, ← List.append_assoc]; exact hr5
          have HB5 : Hid (Below w2.heap.size w2 w5) := (HBx2.out.alloc HBx2.out.size _).grown hg5 (by have := HBx2.out.size; simp; omega) (fun q hq => (HX2.out.lt q hq).1)
          have HS5 : Hid (w5.heap[B]? = some (.cells #[.int .u16 s.1, .int .i64 s.2] 173 (0, 0))) := blk_gr (blk_alloc HSx2.out _) hg5 HNx.out
          have HN5 : Hid ((Value.slice ad5 n5 cap5).ownBlock ≠ some B) := fun e => by
            rcases ho5 with h | h
            · exact HNx.out (h ▸ e)
            · rw [h] at e
              injection e with e
              have := HBlt.out
              have := HZ2.out
              simp at e
              omega
          clear hr5 hg5 ho5 HX2 HBx2 HSx2 HNx r0 r1 r2 r3 r4 r5 r6 r7 r8 r9 r10 r11 s0 s1 t0 t1
          go_wp2_with (fail)
          go_roundw
          case rel =>
            exact ⟨j + 1, _, _, _, by omega, rfl, by go_num, HX5.out, HB5.out, HS5.out, HN5.out⟩
          case measure => simp [intOf]; omega
        · obtain rfl : j = m := by omega
          have hni : ¬ (j : Int) < (j : Int) := by omega
          have HE : Hid (((stm R.q).take j).map (sp2 R s) = (stm R.q).map (sp2 R s)) := by
            show _ = _
            rw [Hm.out, List.take_length]
          go_wp2_with (fail)
          go_roundw
          case rel =>
            refine ⟨k + 1, _, _, _, by omega, rfl, by go_num, ?_, HBx.out⟩
            rw [HS1.out]
            have := HX.out
            rw [HE.out] at this
            exact this
          case measure => simp [intOf]; omega
    · obtain rfl : k = n := by omega
      have hni : ¬ (k : Int) < (k : Int) := by omega
      go_wp2
      go_ret
      have := HV.out
      rw [HAll.out] at this
      exact ⟨_, rfl, this.base HB2.out.size, HB2.out.trans (HBr.out.mono HB2.out.size)⟩
end Go.Proofs.YtfpmljgmfapoiaaGreat
