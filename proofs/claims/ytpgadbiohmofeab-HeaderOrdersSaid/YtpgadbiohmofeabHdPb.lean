/-
  The header of some bytes; small functions.
-/
import Derived.Test.YtpgadbiohmofeabHdU
import Derived.Deep.RegionHeld3
import Derived.Lib.Bytealg
namespace Go.Proofs.Ytpgadbiohmofeab
open Go.RowKit
set_option linter.unusedVariables false
set_option linter.unusedSimpArgs false

theorem bset {B : Nat} {a w : World} (h : Below B a w) (i : Nat) (v : Value) : Below B a (w.setCell ⟨B, i, none⟩ v) := h.setCell (Nat.le_refl _) _
theorem wp_region_drn {P : Program} {id : Nat} {Q : Exit → Act → World → Prop} {a : Act} {w : World} {l : List Oper} (W : World) (hW : w = W) (hm : P.follows .mixedOrders = true) (hB : Region.lexB .any l.toArray = true)
    (h : wpQuiet P l.toArray (fun w' => ∃ n : Nat, w' = W.drewN n) (fun a' => ∀ w', (∃ n : Nat, w' = W.drewN n) → Q .normal a' w') l a) : (Code.region id l.toArray true).wp P Q a w :=
  wp_region_quiet (C := fun w' => ∃ n : Nat, w' = W.drewN n) hm hB ⟨1, by subst hW; rfl⟩ (by simpa using h)
theorem drn_call {P : Program} {f : FuncId} {args : Array Value} {W : World} {x : Nat} {v : Value}
    (h : Calls P f args (W.drewN x) fun e w' => e = .returned v ∧ ∃ n, w' = (W.drewN x).drewN n) : Calls P f args (W.drewN x) fun e w'' => e = .returned v ∧ ∃ y : Nat, w'' = W.drewN y :=
  h.mono fun _ w' ⟨he, n, hn⟩ => ⟨he, x + n, by rw [hn]; simp [World.drewN, Nat.add_assoc]⟩
set_option maxHeartbeats 1000000 in
theorem portT (x y g o n cap : Nat) (w : World) (hx : x < 256) (hy : y < 256) (hn : 2 ≤ n) (h0 : w.cell? ⟨g, o, none⟩ = some (.int .u8 (x : Int))) (h1 : w.cell? ⟨g, o + 1, none⟩ = some (.int .u8 (y : Int))) :
    Calls Try.prog 26 #[.slice (some ⟨g, o, none⟩) n cap] w fun e w' => e = .returned (.int .u16 ((256 * x + y : Nat) : Int)) ∧ ∃ n, w' = w.drewN n := by
  have d0 : (0 : Int) < (n : Int) := by omega
  have d1 : (1 : Int) < (n : Int) := by omega
  go_enter Try.func26, Try.ntmps26
  go_wp2
  go_quiet (fail)
  have e1 : bits .or .u16 ((x : Int) * 256) (y : Int) = ((256 * x + y : Nat) : Int) := by
    have h := u16_or_nat (x * 256) y (by omega) (by omega)
    rw [nat_join 8 _ _ (by omega) hy] at h
    rw [show ((x * 256 : Nat) : Int) = (x : Int) * 256 by omega] at h
    rw [h]; omega
  rw [e1]
  go_wp2
  go_ret
  exact ⟨rfl, _, rfl⟩
set_option maxHeartbeats 1000000 in
theorem isBitT (i : Int) (w : World) : Calls Try.prog 17 #[.int .i64 i] w fun e w' => e = .returned (.bool (decide (0 ≤ i ∧ i ≤ 103))) ∧ w' = w := by
  go_enter Try.func17, Try.ntmps17
  by_cases h : 0 ≤ i
  · by_cases h2 : i < 104
    · go_wp2
      go_ret
      exact ⟨by simp; omega, rfl⟩
    · go_wp2
      go_ret
      exact ⟨by simp; omega, rfl⟩
  · go_wp2
    go_ret
    exact ⟨by simp; omega, rfl⟩
set_option maxHeartbeats 1000000 in
theorem oneT (i : Nat) (w : World) (hi : i < 104) : Calls Try.prog 18 #[.int .i64 (i : Int)] w fun e w' => e = .returned (.int .u8 ((2 ^ (7 - i % 8) : Nat) : Int)) ∧ w' = w := by
  have hi0 : (0 : Int) ≤ (i : Int) := by omega
  go_enter Try.func18, Try.ntmps18
  go_wp2
  go_ret
  refine ⟨ret_int ?_, rfl⟩
  have h8 : 2 ^ (7 - i % 8) ≤ 2 ^ 7 := Nat.pow_le_pow_right (by decide) (by omega)
  have e : (2 : Int) ^ (7 - i % 8) = ((2 ^ (7 - i % 8) : Nat) : Int) := by simp
  rw [e]
  obtain ⟨K, hK⟩ : ∃ K : Nat, K = 2 ^ (7 - i % 8) := ⟨_, rfl⟩
  rw [← hK] at h8 ⊢
  omega
/-- How many bits a byte has, from its highest 1 on. -/
def len8 (x : Nat) : Nat := if x = 0 then 0 else Nat.log2 x + 1
theorem len8_le {x : Nat} (hx : x < 256) : len8 x ≤ 8 := by
  unfold len8
  split
  · omega
  · have : Nat.log2 x < 8 := (Nat.log2_lt (by omega)).2 hx
    omega
set_option maxRecDepth 100000 in
set_option maxHeartbeats 1000000 in
theorem lenT (x : Nat) (w : World) (hx : x < 256) : Calls Try.prog 24 #[.int .u8 (x : Int)] w fun e w' => e = .returned (.int .i64 (len8 x : Int)) ∧ w' = w := by
  go_enter Try.func24, Try.ntmps24
  have hx' : (x : Int) < 256 := by omega
  generalize hS : ByteArray.mk _ = S
  have hs : S.size = 256 := by rw [← hS]; decide +kernel
  have hT : S.data.toList.map UInt8.toNat = (List.range 256).map len8 := by rw [← hS]; decide +kernel
  have hV : ∀ h : x < S.size, S[x].toNat = len8 x := fun h => by
    have h1 := congrArg (fun l => l[x]?) hT
    simp only [List.getElem?_map, List.getElem?_range hx, Option.map_some] at h1
    have h2 : S.data.toList[x]? = some S[x] := by
      rw [Array.getElem?_toList, Array.getElem?_eq_getElem h]
      rfl
    rw [h2] at h1
    simpa using h1
  clear hS hT
  go_wp2
  go_ret
  refine ⟨ret_int ?_, rfl⟩
  have := len8_le hx
  simp [wrap64]
  omega
set_option maxHeartbeats 1000000 in
theorem lzT (x : Nat) (w : World) (hx : x < 256) : Calls Try.prog 14 #[.int .u8 (x : Int)] w fun e w' => e = .returned (.int .i64 (8 - (len8 x : Int))) ∧ w' = w := by
  have k := lenT x w hx
  have l8 := len8_le hx
  go_enter Try.func14, Try.ntmps14
  go_wp2_with (fail)
  refine k.mono ?_
  rintro e w' ⟨rfl, hw⟩
  obtain rfl := hw.symm
  clear hw
  go_wp2
  go_ret
  exact ⟨rfl, rfl⟩
set_option maxHeartbeats 1000000 in
theorem wordT (a b c d g o cap : Nat) (w : World) (ha : a < 256) (hb : b < 256) (hc : c < 256) (hd : d < 256) (hcap : 4 ≤ cap) (h0 : w.cell? ⟨g, o, none⟩ = some (.int .u8 (a : Int))) (h1 : w.cell? ⟨g, o + 1, none⟩ = some (.int .u8 (b : Int))) (h2 : w.cell? ⟨g, o + 2, none⟩ = some (.int .u8 (c : Int))) (h3 : w.cell? ⟨g, o + 3, none⟩ = some (.int .u8 (d : Int))) :
    Calls Try.prog 25 #[.slice (some ⟨g, o, none⟩) 4 cap] w fun e w' => e = .returned (.int .u32 ((256 * (256 * (256 * a + b) + c) + d : Nat) : Int)) ∧ ∃ n, w' = w.drewN n := by
  have p1 : ∀ y : Nat, Calls Try.prog 26 #[.slice (some ⟨g, o, none⟩) 2 cap] (w.drewN y) fun e w'' => e = .returned (.int .u16 ((256 * a + b : Nat) : Int)) ∧ ∃ z : Nat, w'' = w.drewN z := fun y =>
    drn_call (portT a b g o 2 cap (w.drewN y) ha hb (by omega) h0 h1)
  have p2 : ∀ y : Nat, Calls Try.prog 26 #[.slice (some ⟨g, o + 2, none⟩) 2 (cap - 2)] (w.drewN y) fun e w'' => e = .returned (.int .u16 ((256 * c + d : Nat) : Int)) ∧ ∃ z : Nat, w'' = w.drewN z := fun y =>
    drn_call (portT c d g (o + 2) 2 (cap - 2) (w.drewN y) hc hd (by omega) h2 h3)
  have hx : 256 * a + b < 65536 := by omega
  have hy : 256 * c + d < 65536 := by omega
  have hr : 256 * (256 * (256 * a + b) + c) + d = 65536 * (256 * a + b) + (256 * c + d) := by omega
  rw [hr]
  generalize 256 * a + b = X at *
  generalize 256 * c + d = Y at *
  have e1 : bits .or .u32 ((X : Int) * 65536) (Y : Int) = ((65536 * X + Y : Nat) : Int) := by
    have h := u32_or_nat (X * 65536) Y (by omega) (by omega)
    rw [nat_join 16 _ _ (by omega) hy] at h
    rw [show ((X * 65536 : Nat) : Int) = (X : Int) * 65536 by omega] at h
    rw [h]; omega
  clear h0 h1 h2 h3 ha hb hc hd hr
  have hc2 : (2 : Int) ≤ (cap : Int) := by omega
  have hc4 : (4 : Int) ≤ (cap : Int) := by omega
  have hc0 : ¬ cap = 2 := by omega
  have hc1 : ¬ cap - 2 = 0 := by omega
  go_enter Try.func25, Try.ntmps25
  go_wp2
  have kne : Nonempty Nat := ⟨0⟩
  refine wp_region_drn w rfl (by kernel_rfl) (by kernel_rfl) ?_
  repeat (go_big_quiet_step (first | (go_at_call_of 26 (Value.slice (some ⟨g, o, none⟩) 2 cap); exact p1 _) | (go_at_call 26; exact p2 _)))
  refine wpQuiet_nil ?_
  rintro wq ⟨nq, rfl⟩
  go_wp2
  go_ret
  exact ⟨ret_int (by omega), _, rfl⟩
set_option maxHeartbeats 1000000 in
theorem wheadT (l : List Nat) (w : World) (hl : l.length = 13) (hbd : BdB l) :
    Calls Try.prog 19 #[.agg #[.int .u8 ((l.getD 0 0 : Nat) : Int), .int .u8 ((l.getD 1 0 : Nat) : Int), .int .u8 ((l.getD 2 0 : Nat) : Int), .int .u8 ((l.getD 3 0 : Nat) : Int), .int .u8 ((l.getD 4 0 : Nat) : Int), .int .u8 ((l.getD 5 0 : Nat) : Int), .int .u8 ((l.getD 6 0 : Nat) : Int), .int .u8 ((l.getD 7 0 : Nat) : Int), .int .u8 ((l.getD 8 0 : Nat) : Int), .int .u8 ((l.getD 9 0 : Nat) : Int), .int .u8 ((l.getD 10 0 : Nat) : Int), .int .u8 ((l.getD 11 0 : Nat) : Int), .int .u8 ((l.getD 12 0 : Nat) : Int)]] w fun e w' => e = .returned (.agg #[.int .u32 ((hdB l).s : Int), .int .u32 ((hdB l).d : Int), .int .u16 ((hdB l).p : Int), .int .u16 ((hdB l).q : Int), .int .u8 ((hdB l).r : Int)]) ∧ Below w.heap.size w w' := by
  obtain ⟨a0, a1, a2, a3, a4, a5, a6, a7, a8, a9, b0, b1, b2, rfl⟩ := len13 hl
  simp only [BdB, List.mem_cons, List.not_mem_nil, or_false, forall_eq_or_imp, forall_eq] at hbd
  obtain ⟨x0, x1, x2, x3, x4, x5, x6, x7, x8, x9, y0, y1, y2⟩ := hbd
  have hr := hdB_is a0 a1 a2 a3 a4 a5 a6 a7 a8 a9 b0 b1 b2
  simp only [Nat.mul_zero, Nat.zero_add] at hr
  rw [hr]
  simp only [List.getD_cons_zero, List.getD_cons_succ]
  clear hr hl
  obtain ⟨A, hA⟩ : ∃ A, A = 256 * (256 * (256 * a0 + a1) + a2) + a3 := ⟨_, rfl⟩
  obtain ⟨B, hB⟩ : ∃ B, B = 256 * (256 * (256 * a4 + a5) + a6) + a7 := ⟨_, rfl⟩
  obtain ⟨C, hC⟩ : ∃ C, C = 256 * a8 + a9 := ⟨_, rfl⟩
  obtain ⟨D, hD⟩ : ∃ D, D = 256 * b0 + b1 := ⟨_, rfl⟩
  rw [← hA, ← hB, ← hC, ← hD]
  have HV : Hid (Below w.heap.size w (w.alloc (.cells #[.int .u8 (a0 : Int), .int .u8 (a1 : Int), .int .u8 (a2 : Int), .int .u8 (a3 : Int), .int .u8 (a4 : Int), .int .u8 (a5 : Int), .int .u8 (a6 : Int), .int .u8 (a7 : Int), .int .u8 (a8 : Int), .int .u8 (a9 : Int), .int .u8 (b0 : Int), .int .u8 (b1 : Int), .int .u8 (b2 : Int)] 39))) := by show Below _ _ _; (repeat (first | assumption | exact Below.refl _ _ | refine Below.drew ?_ | refine bel_drewN ?_ _ | refine Below.setCell ?_ (by first | omega | (simp; done) | (simp; omega)) _ | refine Below.alloc ?_ (by first | omega | (simp; done) | (simp; omega)) _ | refine bel_of ?_ (by assumption)))
  have c0 : (w.alloc (.cells #[.int .u8 (a0 : Int), .int .u8 (a1 : Int), .int .u8 (a2 : Int), .int .u8 (a3 : Int), .int .u8 (a4 : Int), .int .u8 (a5 : Int), .int .u8 (a6 : Int), .int .u8 (a7 : Int), .int .u8 (a8 : Int), .int .u8 (a9 : Int), .int .u8 (b0 : Int), .int .u8 (b1 : Int), .int .u8 (b2 : Int)] 39)).cell? ⟨w.heap.size, 0, none⟩ = some (.int .u8 (a0 : Int)) := by simp [go_sem]
  have c1 : (w.alloc (.cells #[.int .u8 (a0 : Int), .int .u8 (a1 : Int), .int .u8 (a2 : Int), .int .u8 (a3 : Int), .int .u8 (a4 : Int), .int .u8 (a5 : Int), .int .u8 (a6 : Int), .int .u8 (a7 : Int), .int .u8 (a8 : Int), .int .u8 (a9 : Int), .int .u8 (b0 : Int), .int .u8 (b1 : Int), .int .u8 (b2 : Int)] 39)).cell? ⟨w.heap.size, 1, none⟩ = some (.int .u8 (a1 : Int)) := by simp [go_sem]
  have c2 : (w.alloc (.cells #[.int .u8 (a0 : Int), .int .u8 (a1 : Int), .int .u8 (a2 : Int), .int .u8 (a3 : Int), .int .u8 (a4 : Int), .int .u8 (a5 : Int), .int .u8 (a6 : Int), .int .u8 (a7 : Int), .int .u8 (a8 : Int), .int .u8 (a9 : Int), .int .u8 (b0 : Int), .int .u8 (b1 : Int), .int .u8 (b2 : Int)] 39)).cell? ⟨w.heap.size, 2, none⟩ = some (.int .u8 (a2 : Int)) := by simp [go_sem]
  have c3 : (w.alloc (.cells #[.int .u8 (a0 : Int), .int .u8 (a1 : Int), .int .u8 (a2 : Int), .int .u8 (a3 : Int), .int .u8 (a4 : Int), .int .u8 (a5 : Int), .int .u8 (a6 : Int), .int .u8 (a7 : Int), .int .u8 (a8 : Int), .int .u8 (a9 : Int), .int .u8 (b0 : Int), .int .u8 (b1 : Int), .int .u8 (b2 : Int)] 39)).cell? ⟨w.heap.size, 3, none⟩ = some (.int .u8 (a3 : Int)) := by simp [go_sem]
  have c4 : (w.alloc (.cells #[.int .u8 (a0 : Int), .int .u8 (a1 : Int), .int .u8 (a2 : Int), .int .u8 (a3 : Int), .int .u8 (a4 : Int), .int .u8 (a5 : Int), .int .u8 (a6 : Int), .int .u8 (a7 : Int), .int .u8 (a8 : Int), .int .u8 (a9 : Int), .int .u8 (b0 : Int), .int .u8 (b1 : Int), .int .u8 (b2 : Int)] 39)).cell? ⟨w.heap.size, 4, none⟩ = some (.int .u8 (a4 : Int)) := by simp [go_sem]
  have c5 : (w.alloc (.cells #[.int .u8 (a0 : Int), .int .u8 (a1 : Int), .int .u8 (a2 : Int), .int .u8 (a3 : Int), .int .u8 (a4 : Int), .int .u8 (a5 : Int), .int .u8 (a6 : Int), .int .u8 (a7 : Int), .int .u8 (a8 : Int), .int .u8 (a9 : Int), .int .u8 (b0 : Int), .int .u8 (b1 : Int), .int .u8 (b2 : Int)] 39)).cell? ⟨w.heap.size, 5, none⟩ = some (.int .u8 (a5 : Int)) := by simp [go_sem]
  have c6 : (w.alloc (.cells #[.int .u8 (a0 : Int), .int .u8 (a1 : Int), .int .u8 (a2 : Int), .int .u8 (a3 : Int), .int .u8 (a4 : Int), .int .u8 (a5 : Int), .int .u8 (a6 : Int), .int .u8 (a7 : Int), .int .u8 (a8 : Int), .int .u8 (a9 : Int), .int .u8 (b0 : Int), .int .u8 (b1 : Int), .int .u8 (b2 : Int)] 39)).cell? ⟨w.heap.size, 6, none⟩ = some (.int .u8 (a6 : Int)) := by simp [go_sem]
  have c7 : (w.alloc (.cells #[.int .u8 (a0 : Int), .int .u8 (a1 : Int), .int .u8 (a2 : Int), .int .u8 (a3 : Int), .int .u8 (a4 : Int), .int .u8 (a5 : Int), .int .u8 (a6 : Int), .int .u8 (a7 : Int), .int .u8 (a8 : Int), .int .u8 (a9 : Int), .int .u8 (b0 : Int), .int .u8 (b1 : Int), .int .u8 (b2 : Int)] 39)).cell? ⟨w.heap.size, 7, none⟩ = some (.int .u8 (a7 : Int)) := by simp [go_sem]
  have c8 : (w.alloc (.cells #[.int .u8 (a0 : Int), .int .u8 (a1 : Int), .int .u8 (a2 : Int), .int .u8 (a3 : Int), .int .u8 (a4 : Int), .int .u8 (a5 : Int), .int .u8 (a6 : Int), .int .u8 (a7 : Int), .int .u8 (a8 : Int), .int .u8 (a9 : Int), .int .u8 (b0 : Int), .int .u8 (b1 : Int), .int .u8 (b2 : Int)] 39)).cell? ⟨w.heap.size, 8, none⟩ = some (.int .u8 (a8 : Int)) := by simp [go_sem]
  have c9 : (w.alloc (.cells #[.int .u8 (a0 : Int), .int .u8 (a1 : Int), .int .u8 (a2 : Int), .int .u8 (a3 : Int), .int .u8 (a4 : Int), .int .u8 (a5 : Int), .int .u8 (a6 : Int), .int .u8 (a7 : Int), .int .u8 (a8 : Int), .int .u8 (a9 : Int), .int .u8 (b0 : Int), .int .u8 (b1 : Int), .int .u8 (b2 : Int)] 39)).cell? ⟨w.heap.size, 9, none⟩ = some (.int .u8 (a9 : Int)) := by simp [go_sem]
  have c10 : (w.alloc (.cells #[.int .u8 (a0 : Int), .int .u8 (a1 : Int), .int .u8 (a2 : Int), .int .u8 (a3 : Int), .int .u8 (a4 : Int), .int .u8 (a5 : Int), .int .u8 (a6 : Int), .int .u8 (a7 : Int), .int .u8 (a8 : Int), .int .u8 (a9 : Int), .int .u8 (b0 : Int), .int .u8 (b1 : Int), .int .u8 (b2 : Int)] 39)).cell? ⟨w.heap.size, 10, none⟩ = some (.int .u8 (b0 : Int)) := by simp [go_sem]
  have c11 : (w.alloc (.cells #[.int .u8 (a0 : Int), .int .u8 (a1 : Int), .int .u8 (a2 : Int), .int .u8 (a3 : Int), .int .u8 (a4 : Int), .int .u8 (a5 : Int), .int .u8 (a6 : Int), .int .u8 (a7 : Int), .int .u8 (a8 : Int), .int .u8 (a9 : Int), .int .u8 (b0 : Int), .int .u8 (b1 : Int), .int .u8 (b2 : Int)] 39)).cell? ⟨w.heap.size, 11, none⟩ = some (.int .u8 (b1 : Int)) := by simp [go_sem]
  have c12 : (w.alloc (.cells #[.int .u8 (a0 : Int), .int .u8 (a1 : Int), .int .u8 (a2 : Int), .int .u8 (a3 : Int), .int .u8 (a4 : Int), .int .u8 (a5 : Int), .int .u8 (a6 : Int), .int .u8 (a7 : Int), .int .u8 (a8 : Int), .int .u8 (a9 : Int), .int .u8 (b0 : Int), .int .u8 (b1 : Int), .int .u8 (b2 : Int)] 39)).cell? ⟨w.heap.size, 12, none⟩ = some (.int .u8 (b2 : Int)) := by simp [go_sem]
  have hVs : (w.alloc (.cells #[.int .u8 (a0 : Int), .int .u8 (a1 : Int), .int .u8 (a2 : Int), .int .u8 (a3 : Int), .int .u8 (a4 : Int), .int .u8 (a5 : Int), .int .u8 (a6 : Int), .int .u8 (a7 : Int), .int .u8 (a8 : Int), .int .u8 (a9 : Int), .int .u8 (b0 : Int), .int .u8 (b1 : Int), .int .u8 (b2 : Int)] 39)).heap.size = w.heap.size + 1 := by simp
  obtain ⟨V, hV⟩ : ∃ V, V = (w.alloc (.cells #[.int .u8 (a0 : Int), .int .u8 (a1 : Int), .int .u8 (a2 : Int), .int .u8 (a3 : Int), .int .u8 (a4 : Int), .int .u8 (a5 : Int), .int .u8 (a6 : Int), .int .u8 (a7 : Int), .int .u8 (a8 : Int), .int .u8 (a9 : Int), .int .u8 (b0 : Int), .int .u8 (b1 : Int), .int .u8 (b2 : Int)] 39)) := ⟨_, rfl⟩
  rw [← hV] at HV c0 c1 c2 c3 c4 c5 c6 c7 c8 c9 c10 c11 c12 hVs
  have HVe : Hid (V = (w.alloc (.cells #[.int .u8 (a0 : Int), .int .u8 (a1 : Int), .int .u8 (a2 : Int), .int .u8 (a3 : Int), .int .u8 (a4 : Int), .int .u8 (a5 : Int), .int .u8 (a6 : Int), .int .u8 (a7 : Int), .int .u8 (a8 : Int), .int .u8 (a9 : Int), .int .u8 (b0 : Int), .int .u8 (b1 : Int), .int .u8 (b2 : Int)] 39))) := hV
  clear hV
  have hgV : w.heap.size < V.heap.size := by omega
  have k1 : ∀ W, Below V.heap.size V W → Calls Try.prog 25 #[.slice (some ⟨w.heap.size, 0, none⟩) 4 13] W fun e w' => e = .returned (.int .u32 (A : Int)) ∧ ∃ n, w' = W.drewN n := fun W hW => by
    rw [hA]; exact wordT a0 a1 a2 a3 w.heap.size 0 13 W x0 x1 x2 x3 (by decide) ((hW.cell hgV).trans c0) ((hW.cell hgV).trans c1) ((hW.cell hgV).trans c2) ((hW.cell hgV).trans c3)
  have k2 : ∀ W, Below V.heap.size V W → Calls Try.prog 25 #[.slice (some ⟨w.heap.size, 4, none⟩) 4 9] W fun e w' => e = .returned (.int .u32 (B : Int)) ∧ ∃ n, w' = W.drewN n := fun W hW => by
    rw [hB]; exact wordT a4 a5 a6 a7 w.heap.size 4 9 W x4 x5 x6 x7 (by decide) ((hW.cell hgV).trans c4) ((hW.cell hgV).trans c5) ((hW.cell hgV).trans c6) ((hW.cell hgV).trans c7)
  have k3 : ∀ W, Below V.heap.size V W → Calls Try.prog 26 #[.slice (some ⟨w.heap.size, 8, none⟩) 2 5] W fun e w' => e = .returned (.int .u16 (C : Int)) ∧ ∃ n, w' = W.drewN n := fun W hW => by
    rw [hC]; exact portT a8 a9 w.heap.size 8 2 5 W x8 x9 (by decide) ((hW.cell hgV).trans c8) ((hW.cell hgV).trans c9)
  have k4 : ∀ W, Below V.heap.size V W → Calls Try.prog 26 #[.slice (some ⟨w.heap.size, 10, none⟩) 2 3] W fun e w' => e = .returned (.int .u16 (D : Int)) ∧ ∃ n, w' = W.drewN n := fun W hW => by
    rw [hD]; exact portT b0 b1 w.heap.size 10 2 3 W y0 y1 (by decide) ((hW.cell hgV).trans c10) ((hW.cell hgV).trans c11)
  have x12 := c12
  clear c0 c1 c2 c3 c4 c5 c6 c7 c8 c9 c10 c11 c12 x0 x1 x2 x3 x4 x5 x6 x7 x8 x9 y0 y1 hA hB hC hD
  go_enter Try.func19, Try.ntmps19
  go_wp2
  rw [← HVe.out, ← hVs]
  have HVs : Hid (V.heap.size = w.heap.size + 1) := hVs
  clear hVs
  have hne : w.heap.size ≠ V.heap.size := by omega
  have hne' : ¬ V.heap.size = w.heap.size := by omega
  have hB0 : Below V.heap.size V (V.alloc (.cells #[.int .u32 0, .int .u32 0, .int .u16 0, .int .u16 0, .int .u8 0] 25)).drew := ((Below.refl _ _).alloc (Nat.le_refl _) _).drew
  go_region_held3 (fun w' => Below V.heap.size V w' ∧ w'.cell? ⟨w.heap.size, 12, none⟩ = some (.int .u8 (b2 : Int)) ∧ (∀ i, w'.frozen? ⟨V.heap.size, i, none⟩ = false) ∧ (w'.cell? ⟨V.heap.size, 0, none⟩).isSome = true ∧ (w'.cell? ⟨V.heap.size, 1, none⟩).isSome = true ∧ (w'.cell? ⟨V.heap.size, 2, none⟩).isSome = true ∧ (w'.cell? ⟨V.heap.size, 3, none⟩).isSome = true ∧ (w'.cell? ⟨V.heap.size, 4, none⟩).isSome = true) (refine ⟨?_, ?_, ?_, ?_, ?_, ?_, ?_, ?_⟩ <;> first | (with_reducible assumption) | (with_reducible (repeat (first | assumption | exact Below.refl _ _ | refine Below.drew ?_ | refine bel_drewN ?_ _ | refine Below.alloc ?_ (Nat.le_refl _) _ | refine bset ?_ _ _)); done) | go_keep | (simp [go_sem]; done) | (simp [go_sem, *]; done)) (first | (go_at_call_of 25 (Value.slice (some ⟨w.heap.size, 0, none⟩) 4 13); refine (k1 _ (by with_reducible (repeat (first | assumption | exact Below.refl _ _ | refine Below.drew ?_ | refine bel_drewN ?_ _ | refine Below.alloc ?_ (Nat.le_refl _) _)))).mono ?_; rintro e w' ⟨rfl, nw, rfl⟩) | (go_at_call_of 25 (Value.slice (some ⟨w.heap.size, 4, none⟩) 4 9); refine (k2 _ (by with_reducible (repeat (first | assumption | exact Below.refl _ _ | refine Below.drew ?_ | refine bel_drewN ?_ _ | refine Below.alloc ?_ (Nat.le_refl _) _)))).mono ?_; rintro e w' ⟨rfl, nw, rfl⟩) | (go_at_call_of 26 (Value.slice (some ⟨w.heap.size, 8, none⟩) 2 5); refine (k3 _ (by with_reducible (repeat (first | assumption | exact Below.refl _ _ | refine Below.drew ?_ | refine bel_drewN ?_ _ | refine Below.alloc ?_ (Nat.le_refl _) _)))).mono ?_; rintro e w' ⟨rfl, nw, rfl⟩) | (go_at_call_of 26 (Value.slice (some ⟨w.heap.size, 10, none⟩) 2 3); refine (k4 _ (by with_reducible (repeat (first | assumption | exact Below.refl _ _ | refine Below.drew ?_ | refine bel_drewN ?_ _ | refine Below.alloc ?_ (Nat.le_refl _) _)))).mono ?_; rintro e w' ⟨rfl, nw, rfl⟩))
  go_wp2
  exact bodyPost_ret (v := .agg #[.int .u32 (A : Int), .int .u32 (B : Int), .int .u16 (C : Int), .int .u16 (D : Int), .int .u8 (b2 : Int)]) (by simp [results, Try.results19, go_sem, *]) rfl ⟨rfl, by have := (‹Below V.heap.size V _ ∧ _›).1; exact HV.out.trans (this.mono (Nat.le_of_lt hgV))⟩
end Go.Proofs.Ytpgadbiohmofeab
