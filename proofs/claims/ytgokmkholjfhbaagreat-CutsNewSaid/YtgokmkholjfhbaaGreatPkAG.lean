/-
  PkAG: CtA PxA TbRa TbU, one behind the other (tools/pack.py).
-/
import Derived.Test.YtgokmkholjfhbaaGreatPkAC
import Derived.Test.YtgokmkholjfhbaaGreatPkAD
import Derived.Test.YtgokmkholjfhbaaGreatPkAE
import Derived.Test.YtgokmkholjfhbaaGreatPkAF
import Derived.RegionTactic
import Derived.BigRegion
import Derived.Test.YtgokmkholjfhbaaGreatProg
import Derived.Test.YtgokmkholjfhbaaGreatPkAA
import Derived.Maps.AppendAt
import Derived.OwnWalk
import Derived.Deep.AppendLies
import Derived.Laws.CopyOwn
set_option linter.unusedVariables false
set_option linter.unusedSimpArgs false
namespace Go.Proofs.YtgokmkholjfhbaaGreat
open Go.RowKit
theorem fieldC0 (B o : Nat) (w : World) : Calls Tryz.prog 84 #[.pointer (some ⟨B, o, none⟩)] w fun e w' => e = .returned (.pointer (some ⟨B, o, none⟩)) ∧ w' = w := by
 go_enter Tryz.func84, Tryz.ntmps84
 go_wp2
 go_ret
 exact ⟨rfl, rfl⟩
theorem fieldC1 (B o : Nat) (w : World) : Calls Tryz.prog 87 #[.pointer (some ⟨B, o, none⟩)] w fun e w' => e = .returned (.pointer (some ⟨B, o + 2, none⟩)) ∧ w' = w := by
 go_enter Tryz.func87, Tryz.ntmps87
 go_wp2
 go_ret
 exact ⟨rfl, rfl⟩
theorem fieldC2 (B o : Nat) (w : World) : Calls Tryz.prog 89 #[.pointer (some ⟨B, o, none⟩)] w fun e w' => e = .returned (.pointer (some ⟨B, o + 4, none⟩)) ∧ w' = w := by
 go_enter Tryz.func89, Tryz.ntmps89
 go_wp2
 go_ret
 exact ⟨rfl, rfl⟩
theorem fieldC3 (B o : Nat) (w : World) : Calls Tryz.prog 92 #[.pointer (some ⟨B, o, none⟩)] w fun e w' => e = .returned (.pointer (some ⟨B, o + 6, none⟩)) ∧ w' = w := by
 go_enter Tryz.func92, Tryz.ntmps92
 go_wp2
 go_ret
 exact ⟨rfl, rfl⟩
theorem fieldC4 (B o : Nat) (w : World) : Calls Tryz.prog 94 #[.pointer (some ⟨B, o, none⟩)] w fun e w' => e = .returned (.pointer (some ⟨B, o + 8, none⟩)) ∧ w' = w := by
 go_enter Tryz.func94, Tryz.ntmps94
 go_wp2
 go_ret
 exact ⟨rfl, rfl⟩
theorem midst32 (a b : Nat) (w : World) (ha : a < 4294967296) (hb : b < 4294967296) (h : a ≤ b) : Calls Tryz.prog 115 #[.int .u32 a, .int .u32 b] w fun e w' => e = .returned (.tuple #[.int .u32 ((midI (a, b) : Nat) : Int), .bool (decide (a < b))]) ∧ w' = w := by
 have h1 : ((b : Int) - (a : Int)) % 4294967296 = (b : Int) - (a : Int) := by omega
 have h2 : (0 : Int) ≤ (b : Int) - (a : Int) := by omega
 have h5 : ((midI (a, b) : Nat) : Int) = (a : Int) + ((b : Int) - (a : Int)) / 2 := by unfold midI; simp only; omega
 have h3 : ((b : Int) - (a : Int)).tdiv 2 = ((b : Int) - (a : Int)) / 2 := Int.tdiv_eq_ediv_of_nonneg h2
 have h4 : ((a : Int) + ((b : Int) - (a : Int)) / 2) % 4294967296 = (a : Int) + ((b : Int) - (a : Int)) / 2 := by omega
 have h6 : (((b : Int) - (a : Int)) / 2) % 4294967296 = ((b : Int) - (a : Int)) / 2 := by omega
 rw [h5]
 go_enter Tryz.func115, Tryz.ntmps115
 go_wp2
 exact bodyPost_ret (v := .tuple #[.int .u32 ((a : Int) + ((b : Int) - (a : Int)) / 2), .bool (decide (a < b))]) (by simp [results, Tryz.results115, go_sem, h1, h3, h4, h6]) rfl ⟨rfl, rfl⟩
theorem midst16 (a b : Nat) (w : World) (ha : a < 65536) (hb : b < 65536) (h : a ≤ b) : Calls Tryz.prog 118 #[.int .u16 a, .int .u16 b] w fun e w' => e = .returned (.tuple #[.int .u16 ((midI (a, b) : Nat) : Int), .bool (decide (a < b))]) ∧ w' = w := by
 have h1 : ((b : Int) - (a : Int)) % 65536 = (b : Int) - (a : Int) := by omega
 have h2 : (0 : Int) ≤ (b : Int) - (a : Int) := by omega
 have h5 : ((midI (a, b) : Nat) : Int) = (a : Int) + ((b : Int) - (a : Int)) / 2 := by unfold midI; simp only; omega
 have h3 : ((b : Int) - (a : Int)).tdiv 2 = ((b : Int) - (a : Int)) / 2 := Int.tdiv_eq_ediv_of_nonneg h2
 have h4 : ((a : Int) + ((b : Int) - (a : Int)) / 2) % 65536 = (a : Int) + ((b : Int) - (a : Int)) / 2 := by omega
 have h6 : (((b : Int) - (a : Int)) / 2) % 65536 = ((b : Int) - (a : Int)) / 2 := by omega
 rw [h5]
 go_enter Tryz.func118, Tryz.ntmps118
 go_wp2
 exact bodyPost_ret (v := .tuple #[.int .u16 ((a : Int) + ((b : Int) - (a : Int)) / 2), .bool (decide (a < b))]) (by simp [results, Tryz.results118, go_sem, h1, h3, h4, h6]) rfl ⟨rfl, rfl⟩
set_option maxHeartbeats 2000000 in
theorem halveRunC (a b : Nat) (ha : a < 4294967296) (hb : b < 4294967296) (h : a ≤ b) : ∃ u v : Nat × Nat, (halI (a, b) = some (u, v) ∨ halI (a, b) = none) ∧ u.1 < 4294967296 ∧ u.2 < 4294967296 ∧ v.1 < 4294967296 ∧ v.2 < 4294967296 ∧ ∀ w : World, Calls Tryz.prog 85 #[.agg #[.int .u32 a, .int .u32 b]] w fun e w' => e = .returned (.tuple #[.agg #[.int .u32 u.1, .int .u32 u.2], .agg #[.int .u32 v.1, .int .u32 v.2], .bool (halI (a, b)).isSome]) ∧ Below w.heap.size w w' := by
 have hm1 : midI (a, b) < 4294967296 := by unfold midI; simp only; omega
 have hs : (halI (a, b)).isSome = decide (a < b) := by
  unfold halI
  by_cases e : a < b
  ·rw [if_pos e]; simp [e]
  ·rw [if_neg e]; simp [e]
 refine ⟨(a, midI (a, b)), ((midI (a, b) + 1) % 4294967296, b), ?_, ha, hm1, Nat.mod_lt _ (by decide), hb, fun w => ?_⟩
 ·unfold halI
  by_cases e : a < b
  ·rw [if_pos e]
   refine .inl ?_
   have : midI (a, b) + 1 ≤ b := by unfold midI; simp only; omega
   rw [Nat.mod_eq_of_lt (by omega)]
  ·rw [if_neg e]; exact .inr rfl
 rw [hs]
 have k := fun W => midst32 a b W ha hb h
 have e1 : (((midI (a, b) + 1) % 4294967296 : Nat) : Int) = (((midI (a, b) : Nat) : Int) + 1) % 4294967296 := by omega
 simp only [e1]
 clear hs e1
 generalize midI (a, b) = m at *
 generalize decide (a < b) = c at *
 clear h
 go_enter Tryz.func85, Tryz.ntmps85
 go_wp2_with (go_at_call 115; refine (k _).mono ?_; rintro e w' ⟨rfl, hw⟩; obtain rfl := hw.symm; clear hw)
 go_region
 all_goals go_wp2
 all_goals (refine bodyPost_ret (v := .tuple #[.agg #[.int .u32 a, .int .u32 m], .agg #[.int .u32 (((m : Int) + 1) % 4294967296), .int .u32 b], .bool c]) (by simp [results, Tryz.results85, go_sem, IntKind.wrap, IntKind.signed]) rfl ⟨rfl, ?_⟩; (repeat (first | assumption | exact Below.refl _ _ | refine Below.drew ?_ | refine bel_drewN ?_ _ | refine Below.setCell ?_ (by first | omega | (simp; done) | (simp; omega)) _ | refine Below.alloc ?_ (by first | omega | (simp; done) | (simp; omega)) _ | refine bel_of ?_ (by assumption))))
set_option maxHeartbeats 2000000 in
theorem halveSpanC (a b : Nat) (ha : a < 65536) (hb : b < 65536) (h : a ≤ b) : ∃ u v : Nat × Nat, (halI (a, b) = some (u, v) ∨ halI (a, b) = none) ∧ u.1 < 65536 ∧ u.2 < 65536 ∧ v.1 < 65536 ∧ v.2 < 65536 ∧ ∀ w : World, Calls Tryz.prog 90 #[.agg #[.int .u16 a, .int .u16 b]] w fun e w' => e = .returned (.tuple #[.agg #[.int .u16 u.1, .int .u16 u.2], .agg #[.int .u16 v.1, .int .u16 v.2], .bool (halI (a, b)).isSome]) ∧ Below w.heap.size w w' := by
 have hm1 : midI (a, b) < 65536 := by unfold midI; simp only; omega
 have hs : (halI (a, b)).isSome = decide (a < b) := by
  unfold halI
  by_cases e : a < b
  ·rw [if_pos e]; simp [e]
  ·rw [if_neg e]; simp [e]
 refine ⟨(a, midI (a, b)), ((midI (a, b) + 1) % 65536, b), ?_, ha, hm1, Nat.mod_lt _ (by decide), hb, fun w => ?_⟩
 ·unfold halI
  by_cases e : a < b
  ·rw [if_pos e]
   refine .inl ?_
   have : midI (a, b) + 1 ≤ b := by unfold midI; simp only; omega
   rw [Nat.mod_eq_of_lt (by omega)]
  ·rw [if_neg e]; exact .inr rfl
 rw [hs]
 have k := fun W => midst16 a b W ha hb h
 have e1 : (((midI (a, b) + 1) % 65536 : Nat) : Int) = (((midI (a, b) : Nat) : Int) + 1) % 65536 := by omega
 simp only [e1]
 clear hs e1
 generalize midI (a, b) = m at *
 generalize decide (a < b) = c at *
 clear h
 go_enter Tryz.func90, Tryz.ntmps90
 go_wp2_with (go_at_call 118; refine (k _).mono ?_; rintro e w' ⟨rfl, hw⟩; obtain rfl := hw.symm; clear hw)
 go_region
 all_goals go_wp2
 all_goals (refine bodyPost_ret (v := .tuple #[.agg #[.int .u16 a, .int .u16 m], .agg #[.int .u16 (((m : Int) + 1) % 65536), .int .u16 b], .bool c]) (by simp [results, Tryz.results90, go_sem, IntKind.wrap, IntKind.signed]) rfl ⟨rfl, ?_⟩; (repeat (first | assumption | exact Below.refl _ _ | refine Below.drew ?_ | refine bel_drewN ?_ _ | refine Below.setCell ?_ (by first | omega | (simp; done) | (simp; omega)) _ | refine Below.alloc ?_ (by first | omega | (simp; done) | (simp; omega)) _ | refine bel_of ?_ (by assumption))))
theorem meetRun_yes (a b c d : Nat) (w : World) (h : max a c ≤ min b d) :
  Calls Tryz.prog 86 #[.agg #[.int .u32 a, .int .u32 b], .agg #[.int .u32 c, .int .u32 d]] w fun e w' => e = .returned (.tuple #[.agg #[.int .u32 ((max a c : Nat) : Int), .int .u32 ((min b d : Nat) : Int)], .bool true]) ∧ Below w.heap.size w w' := by
 by_cases h1 : a < c
 ·rw [show max a c = c by omega] at h ⊢
  by_cases h2 : d < b
  ·rw [show min b d = d by omega] at h ⊢
   have h3 : ¬ (d < c) := by omega
   clear h
   go_enter Tryz.func86, Tryz.ntmps86
   go_wp2
   exact bodyPost_ret (v := .tuple #[.agg #[.int .u32 c, .int .u32 d], .bool true]) (by simp [results, Tryz.results86, go_sem]) rfl ⟨rfl, belA⟩
  ·rw [show min b d = b by omega] at h ⊢
   have h3 : ¬ (b < c) := by omega
   clear h
   go_enter Tryz.func86, Tryz.ntmps86
   go_wp2
   exact bodyPost_ret (v := .tuple #[.agg #[.int .u32 c, .int .u32 b], .bool true]) (by simp [results, Tryz.results86, go_sem]) rfl ⟨rfl, belA⟩
 ·rw [show max a c = a by omega] at h ⊢
  by_cases h2 : d < b
  ·rw [show min b d = d by omega] at h ⊢
   have h3 : ¬ (d < a) := by omega
   clear h
   go_enter Tryz.func86, Tryz.ntmps86
   go_wp2
   exact bodyPost_ret (v := .tuple #[.agg #[.int .u32 a, .int .u32 d], .bool true]) (by simp [results, Tryz.results86, go_sem]) rfl ⟨rfl, belA⟩
  ·rw [show min b d = b by omega] at h ⊢
   have h3 : ¬ (b < a) := by omega
   clear h
   go_enter Tryz.func86, Tryz.ntmps86
   go_wp2
   exact bodyPost_ret (v := .tuple #[.agg #[.int .u32 a, .int .u32 b], .bool true]) (by simp [results, Tryz.results86, go_sem]) rfl ⟨rfl, belA⟩
theorem meetRun_no (a b c d : Nat) (w : World) (h : ¬ max a c ≤ min b d) :
  Calls Tryz.prog 86 #[.agg #[.int .u32 a, .int .u32 b], .agg #[.int .u32 c, .int .u32 d]] w fun e w' => e = .returned (.tuple #[.agg #[.int .u32 0, .int .u32 0], .bool false]) ∧ Below w.heap.size w w' := by
 by_cases h1 : a < c
 ·rw [show max a c = c by omega] at h
  by_cases h2 : d < b
  ·rw [show min b d = d by omega] at h
   have h3 : d < c := by omega
   clear h
   go_enter Tryz.func86, Tryz.ntmps86
   go_wp2
   exact bodyPost_ret (v := .tuple #[.agg #[.int .u32 0, .int .u32 0], .bool false]) (by simp [results, Tryz.results86, go_sem]) rfl ⟨rfl, belA⟩
  ·rw [show min b d = b by omega] at h
   have h3 : b < c := by omega
   clear h
   go_enter Tryz.func86, Tryz.ntmps86
   go_wp2
   exact bodyPost_ret (v := .tuple #[.agg #[.int .u32 0, .int .u32 0], .bool false]) (by simp [results, Tryz.results86, go_sem]) rfl ⟨rfl, belA⟩
 ·rw [show max a c = a by omega] at h
  by_cases h2 : d < b
  ·rw [show min b d = d by omega] at h
   have h3 : d < a := by omega
   clear h
   go_enter Tryz.func86, Tryz.ntmps86
   go_wp2
   exact bodyPost_ret (v := .tuple #[.agg #[.int .u32 0, .int .u32 0], .bool false]) (by simp [results, Tryz.results86, go_sem]) rfl ⟨rfl, belA⟩
  ·rw [show min b d = b by omega] at h
   have h3 : b < a := by omega
   clear h
   go_enter Tryz.func86, Tryz.ntmps86
   go_wp2
   exact bodyPost_ret (v := .tuple #[.agg #[.int .u32 0, .int .u32 0], .bool false]) (by simp [results, Tryz.results86, go_sem]) rfl ⟨rfl, belA⟩
end Go.Proofs.YtgokmkholjfhbaaGreat
namespace Go.Proofs.YtgokmkholjfhbaaGreat.Pf
open Go.RowKit
theorem isLength_in (n : Nat) (w : World) (hn : n ≤ 32) :
  Calls Tryz.prog 104 #[.int .i64 n] w fun e w' => e = .returned (.bool true) ∧ w' = w := by
 have h1 : (0 : Int) ≤ n := by omega
 have h2 : (n : Int) ≤ 32 := by omega
 have d1 : decide ((0 : Int) ≤ n) = true := decide_eq_true h1
 have d2 : decide ((n : Int) ≤ 32) = true := decide_eq_true h2
 go_enter Tryz.func104, Tryz.ntmps104
 go_wp2
 go_ret
 exact ⟨rfl, rfl⟩
theorem isLength_out (n : Int) (w : World) (hn : n < 0 ∨ 32 < n) :
  Calls Tryz.prog 104 #[.int .i64 n] w fun e w' => e = .returned (.bool false) ∧ w' = w := by
 rcases hn with hn | hn
 ·have d1 : decide ((0 : Int) ≤ n) = false := decide_eq_false (by omega)
  go_enter Tryz.func104, Tryz.ntmps104
  go_wp2
  go_ret
  exact ⟨rfl, rfl⟩
 ·have d1 : decide ((0 : Int) ≤ n) = true := decide_eq_true (by omega)
  have d2 : decide (n ≤ (32 : Int)) = false := decide_eq_false (by omega)
  go_enter Tryz.func104, Tryz.ntmps104
  go_wp2
  go_ret
  exact ⟨rfl, rfl⟩
theorem beyond_any (n : Nat) (w : World) (hn : n ≤ 32) :
  Calls Tryz.prog 105 #[.int .i64 n] w fun e w' => e = .returned (.int .u32 ((bk n - 1 : Nat) : Int)) ∧ w' = w := by
 go_enter Tryz.func105, Tryz.ntmps105
 go_wp2
 go_ret
 exact ⟨ret_int (shr_int n hn), rfl⟩
theorem first_any (a n : Nat) (w : World) (ha : a < 4294967296) (hn : n ≤ 32) :
  Calls Tryz.prog 68 #[.int .u32 a, .int .i64 n] w fun e w' => e = .returned (.agg #[.int .u32 (ct a n : Int), .int .i64 n]) ∧ Below w.heap.size w w' := by
 have hand := andNot_lw a n ha
 go_enter Tryz.func68, Tryz.ntmps68
 go_wp2_with (go_at_call 105; refine (beyond_any n _ hn).mono ?_; rintro e w' ⟨rfl, hw⟩; obtain rfl := hw.symm; clear hw)
 exact bodyPost_ret (v := .agg #[.int .u32 (ct a n : Int), .int .i64 n]) (by simp [results, Tryz.results68, go_sem]) rfl ⟨rfl, (Below.refl _ _).alloc (Nat.le_refl _) _⟩
theorem check_any (a : Nat) (n : Int) (w : World) (ha : a < 4294967296) :
  Calls Tryz.prog 67 #[.agg #[.int .u32 a, .int .i64 n]] w fun e w' => e = .returned (.int .i64 (chk a n)) ∧ Below w.heap.size w w' := by
 by_cases hn : n < 0 ∨ 32 < n
 ·rw [chk_out a n hn]
  go_enter Tryz.func67, Tryz.ntmps67
  go_wp2_with (go_at_call 104; refine (isLength_out n _ hn).mono ?_; rintro e w' ⟨rfl, hw⟩; obtain rfl := hw.symm; clear hw)
  go_ret
  exact ⟨rfl, (Below.refl _ _).alloc (Nat.le_refl _) _⟩
 ·obtain ⟨m, rfl⟩ : ∃ m : Nat, n = (m : Int) := ⟨n.toNat, by omega⟩
  have hm : m ≤ 32 := by omega
  clear hn
  have hand := and_lw a m ha
  by_cases h0 : a % bk m = 0
  ·rw [chk_in a m hm h0]
   rw [h0] at hand
   clear h0
   go_enter Tryz.func67, Tryz.ntmps67
   go_wp2_with (go_at_call 104; refine (isLength_in m _ hm).mono ?_; rintro e w' ⟨rfl, hw⟩; obtain rfl := hw.symm; clear hw)
   go_quiet ((go_at_call 105; exact Calls.quiet_of_same (beyond_any m _ hm)))
   go_wp2
   go_ret
   exact ⟨rfl, bel_drewN ((Below.refl _ _).alloc (Nat.le_refl _) _) _⟩
  ·rw [chk_bits a m hm h0]
   have h0' : ¬ ((a % bk m : Nat) : Int) = 0 := by omega
   have d0 : (((a % bk m : Nat) : Int) != 0) = true := by simpa using h0'
   clear h0
   go_enter Tryz.func67, Tryz.ntmps67
   go_wp2_with (go_at_call 104; refine (isLength_in m _ hm).mono ?_; rintro e w' ⟨rfl, hw⟩; obtain rfl := hw.symm; clear hw)
   go_quiet ((go_at_call 105; exact Calls.quiet_of_same (beyond_any m _ hm)))
   go_wp2
   go_ret
   exact ⟨rfl, bel_drewN ((Below.refl _ _).alloc (Nat.le_refl _) _) _⟩
end Go.Proofs.YtgokmkholjfhbaaGreat.Pf
namespace Go.Proofs.YtgokmkholjfhbaaGreat
open Go.RowKit
theorem blk12 {w : World} {B : Nat} {v0 v1 v2 v3 v4 v5 v6 v7 v8 v9 v10 v11 : Value} {t : TypeId} {fr : Nat × Nat} (h : w.heap[B]? = some (.cells #[v0, v1, v2, v3, v4, v5, v6, v7, v8, v9, v10, v11] t fr)) :
  w.cell? ⟨B, 0, none⟩ = some v0 ∧ w.cell? ⟨B, 1, none⟩ = some v1 ∧ w.cell? ⟨B, 2, none⟩ = some v2 ∧ w.cell? ⟨B, 3, none⟩ = some v3 ∧ w.cell? ⟨B, 4, none⟩ = some v4 ∧ w.cell? ⟨B, 5, none⟩ = some v5 ∧ w.cell? ⟨B, 6, none⟩ = some v6 ∧ w.cell? ⟨B, 7, none⟩ = some v7 ∧ w.cell? ⟨B, 8, none⟩ = some v8 ∧ w.cell? ⟨B, 9, none⟩ = some v9 ∧ w.cell? ⟨B, 10, none⟩ = some v10 ∧ w.cell? ⟨B, 11, none⟩ = some v11 :=
 ⟨blk_cell h rfl, blk_cell h rfl, blk_cell h rfl, blk_cell h rfl, blk_cell h rfl, blk_cell h rfl, blk_cell h rfl, blk_cell h rfl, blk_cell h rfl, blk_cell h rfl, blk_cell h rfl, blk_cell h rfl⟩
theorem blk2 {w : World} {B : Nat} {v0 v1 : Value} {t : TypeId} {fr : Nat × Nat} (h : w.heap[B]? = some (.cells #[v0, v1] t fr)) : w.cell? ⟨B, 0, none⟩ = some v0 ∧ w.cell? ⟨B, 1, none⟩ = some v1 := ⟨blk_cell h rfl, blk_cell h rfl⟩
theorem hasSp (s : Nat × Nat) (i : Nat) (w : World) :
  Calls Tryz.prog 53 #[.agg #[.int .u16 (s.1), .int .u16 (s.2)], .int .u16 i] w fun e w' => e = .returned (.bool (hasI s i)) ∧ Below w.heap.size w w' := by
 obtain ⟨a, b⟩ := s
 have he : hasI (a, b) i = (decide (a ≤ i) && decide (i ≤ b)) := by unfold hasI; simp only [Bool.decide_and]
 rw [he]
 clear he
 by_cases h : a ≤ i
 ·rw [decide_eq_true h, Bool.true_and]
  have d1 : decide (a ≤ i) = true := decide_eq_true h
  clear h
  go_enter Tryz.func53, Tryz.ntmps53
  go_wp2
  go_ret
  exact ⟨rfl, belA⟩
 ·rw [decide_eq_false h, Bool.false_and]
  have d1 : decide (a ≤ i) = false := decide_eq_false h
  clear h
  go_enter Tryz.func53, Tryz.ntmps53
  go_wp2
  go_ret
  exact ⟨rfl, belA⟩
theorem checkIdC (i : Int) (w : World) :
  Calls Tryz.prog 74 #[.int .i64 i] w fun e w' => e = .returned (.int .i64 (errI i)) ∧ Below w.heap.size w w' := by
 by_cases h1 : i < 1
 ·rw [show errI i = 80 from if_neg (by omega)]
  go_enter Tryz.func74, Tryz.ntmps74
  go_wp2
  go_ret
  exact ⟨rfl, belA⟩
 ·by_cases h2 : 999999 < i
  ·rw [show errI i = 80 from if_neg (by omega)]
   go_enter Tryz.func74, Tryz.ntmps74
   go_wp2
   go_ret
   exact ⟨rfl, belA⟩
  ·rw [show errI i = 0 from if_pos (by omega)]
   go_enter Tryz.func74, Tryz.ntmps74
   go_wp2
   go_ret
   exact ⟨rfl, belA⟩
theorem checkActC (a : Int) (w : World) :
  Calls Tryz.prog 77 #[.int .i64 a] w fun e w' => e = .returned (.int .i64 (errA a)) ∧ Below w.heap.size w w' := by
 by_cases h : 1 ≤ a ∧ a ≤ 4
 ·rw [show errA a = 0 from if_pos h]
  obtain rfl | rfl | rfl | rfl : a = 1 ∨ a = 2 ∨ a = 3 ∨ a = 4 := by omega
  all_goals
   clear h
   go_enter Tryz.func77, Tryz.ntmps77
   go_wp2
   go_ret
   exact ⟨rfl, belA⟩
 ·rw [show errA a = 81 from if_neg h]
  have n1 : ¬ a = 1 := by omega
  have n2 : ¬ a = 2 := by omega
  have n3 : ¬ a = 3 := by omega
  have n4 : ¬ a = 4 := by omega
  clear h
  go_enter Tryz.func77, Tryz.ntmps77
  go_wp2
  go_ret
  exact ⟨rfl, belA⟩
theorem checkSp (a b : Nat) (w : World) :
  Calls Tryz.prog 75 #[.agg #[.int .u16 a, .int .u16 b]] w fun e w' => e = .returned (.int .i64 (errS a b)) ∧ Below w.heap.size w w' := by
 by_cases h : b < a
 ·rw [show errS a b = 30 from if_pos h]
  have h' : (b : Int) < (a : Int) := by omega
  clear h
  go_enter Tryz.func75, Tryz.ntmps75
  go_wp2
  go_ret
  exact ⟨rfl, belA⟩
 ·rw [show errS a b = 0 from if_neg h]
  have h' : ¬ (b : Int) < (a : Int) := by omega
  clear h
  go_enter Tryz.func75, Tryz.ntmps75
  go_wp2
  go_ret
  exact ⟨rfl, belA⟩
def encU (p : Ru) : List Value := [.int .i64 p.i, .int .u32 p.s, .int .i64 p.sl, .int .u32 p.d, .int .i64 p.dl, .int .u16 p.p.1, .int .u16 p.p.2, .int .u16 p.q.1, .int .u16 p.q.2, .int .u8 p.m.1, .int .u8 p.m.2, .int .i64 p.act]
def flatU : List (Ru) → List Value
 | [] => []
 | p :: l => encU p ++ flatU l
theorem flatU_length (l : List (Ru)) : (flatU l).length = l.length * 12 := by
 induction l with
 | nil => rfl
 | cons p l ih => simp only [flatU, encU, List.length_append, List.length_cons, List.length_nil, ih]; omega
theorem flatU_append (l k : List (Ru)) : flatU (l ++ k) = flatU l ++ flatU k := by
 induction l with
 | nil => rfl
 | cons p l ih => simp only [flatU, List.cons_append, ih, List.append_assoc]
theorem flatU_one (l : List (Ru)) : ∀ u ∈ flatU l, u.oneCell' = true := by
 induction l with
 | nil => intro u hu; cases hu
 | cons p l ih =>
  intro u hu
  simp only [flatU, List.mem_append] at hu
  rcases hu with hu | hu
  ·simp only [encU, List.mem_cons, List.not_mem_nil, or_false] at hu
   rcases hu with rfl | rfl | rfl | rfl | rfl | rfl | rfl | rfl | rfl | rfl | rfl | rfl <;> rfl
  ·exact ih u hu
theorem flatU_at : ∀ (l : List (Ru)) (i : Nat) (h : i < l.length) (j : Nat) (hj : j < 12), (flatU l)[i * 12 + j]? = (encU (l[i]'h))[j]?
 | p :: l, 0, _, j, hj => by
  rw [Nat.zero_mul, Nat.zero_add]
  exact List.getElem?_append_left (by simp [encU]; omega)
 | p :: l, i + 1, h, j, hj => by
  have := flatU_at l i (by simpa using h) j hj
  show (encU p ++ flatU l)[(i + 1) * 12 + j]? = _
  rw [List.getElem?_append_right (by simp [encU]; omega), show (i + 1) * 12 + j - (encU p).length = i * 12 + j by simp [encU]; omega]
  exact this
theorem infoU : (Tryz.prog.info? 64).map (fun i => (i.zero, i.size, i.bytes)) = some (some (.agg #[.int .i64 0, .int .u32 0, .int .i64 0, .int .u32 0, .int .i64 0, .int .u16 0, .int .u16 0, .int .u16 0, .int .u16 0, .int .u8 0, .int .u8 0, .int .i64 0]), 12, 64) := by kernel_rfl
def RowU (w : World) (base : Nat) (v : Value) (l : List (Ru)) : Prop := w.ownsRow base 64 12 v l.length (flatU l)
theorem RowU.base {w : World} {b b' : Nat} {v : Value} {l : List (Ru)} (h : RowU w b v l) (hb : b' ≤ b) : RowU w b' v l := by
 refine ⟨h.1, ?_⟩
 rcases h.2 with h2 | ⟨g, cap, cur, hv, hg, r⟩
 ·exact .inl h2
 ·exact .inr ⟨g, cap, cur, hv, by omega, r⟩
theorem RowU.on {w w1 : World} {b : Nat} {v : Value} {l : List (Ru)} (h : RowU w b v l) (hb : Below w.heap.size w w1) : RowU w1 b v l := by
 refine ⟨h.1, ?_⟩
 rcases h.2 with h2 | ⟨g, cap, cur, hv, hg, hh, r⟩
 ·exact .inl h2
 ·exact .inr ⟨g, cap, cur, hv, hg, by rw [hb.block g (Array.getElem?_eq_some_iff.1 hh).1]; exact hh, r⟩
theorem RowU.alloc {w : World} {b : Nat} {v : Value} {l : List (Ru)} (h : RowU w b v l) (o : Obj) : RowU (w.alloc o) b v l := World.ownsRow.alloc h o
theorem RowU.drew {w : World} {b : Nat} {v : Value} {l : List (Ru)} (h : RowU w b v l) : RowU w.drew b v l := h
theorem RowU.nil (w : World) (b : Nat) : RowU w b (.slice none 0 0) [] := World.ownsRow_nil w b _ _
theorem RowU.one (w : World) (b : Nat) (p : Ru) (hb : b ≤ w.heap.size) : RowU (w.alloc (.cells #[.int .i64 p.i, .int .u32 p.s, .int .i64 p.sl, .int .u32 p.d, .int .i64 p.dl, .int .u16 p.p.1, .int .u16 p.p.2, .int .u16 p.q.1, .int .u16 p.q.2, .int .u8 p.m.1, .int .u8 p.m.2, .int .i64 p.act] 64)) b (.slice (some ⟨w.heap.size, 0, none⟩) 1 1) [p] :=
 World.ownsRow_lit w #[.int .i64 p.i, .int .u32 p.s, .int .i64 p.sl, .int .u32 p.d, .int .i64 p.dl, .int .u16 p.p.1, .int .u16 p.p.2, .int .u16 p.q.1, .int .u16 p.q.2, .int .u8 p.m.1, .int .u8 p.m.2, .int .i64 p.act] 1 hb (by simp [maxLen]) rfl
theorem RowU.lt {w : World} {b : Nat} {v : Value} {l : List (Ru)} (h : RowU w b v l) : ∀ k, v.ownBlock = some k → b ≤ k ∧ k < w.heap.size := World.ownsRow.lt h
theorem RowU.put {w : World} {b : Nat} {v : Value} {l : List (Ru)} (h : RowU w b v l) {g i : Nat} (hg : some g ≠ v.ownBlock) (u : Value) : RowU (w.setCell ⟨g, i, none⟩ u) b v l := by
 refine ⟨h.1, ?_⟩
 rcases h.2 with h2 | ⟨g', cap, cur, hv, hb, hh, r⟩
 ·exact .inl h2
 ·exact .inr ⟨g', cap, cur, hv, hb, by rw [Below.heap_setCell _ _ _ _ (by intro e; apply hg; rw [hv]; simp [Value.ownBlock, e])]; exact hh, r⟩
theorem bel_grownU {B : Nat} {a w w' : World} {b : Nat} {v : Value} {l : List (Ru)} (h : Below B a w) (hr : RowU w b v l) (hg : w.grownBy w' v.ownBlock) (hB : B ≤ w.heap.size) (hb : B ≤ b) : Below B a w' :=
 h.grown hg hB fun k hk => Nat.le_trans hb (hr.lt k hk).1
theorem RowU.form {w : World} {b : Nat} {v : Value} {l : List (Ru)} (h : RowU w b v l) :
  ∃ (ad : Option Addr) (cap : Nat), v = .slice ad l.length cap ∧ l.length ≤ cap ∧ (0 < l.length → ∃ g, ad = some ⟨g, 0, none⟩ ∧ b ≤ g ∧ g < w.heap.size ∧ ∀ k (hk : k < l.length) j, j < 12 → w.cell? ⟨g, k * 12 + j, none⟩ = (encU (l[k]'hk))[j]?) := by
 rcases h.2 with ⟨hv, hn⟩ | ⟨g, cap, cur, hv, hb, hg, hcap, r⟩
 ·exact ⟨none, 0, by rw [hv, hn], by omega, fun h0 => by omega⟩
 ·subst hv
  refine ⟨_, cap, rfl, hcap, fun _ => ⟨g, rfl, hb, (Array.getElem?_eq_some_iff.1 hg).1, fun k hk j hj => ?_⟩⟩
  have h' : w.ownsRow b 64 12 (.slice (some ⟨g, 0, none⟩) l.length cap) l.length (flatU l) := h
  rw [h'.cellAt (k * 12 + j) (by omega), flatU_at l k hk j hj]
theorem RowU.frozen {w : World} {b g cap n : Nat} {l : List (Ru)} (h : RowU w b (.slice (some ⟨g, 0, none⟩) n cap) l) (j : Nat) : w.frozen? ⟨g, j, none⟩ = false := by
 rcases h.2 with ⟨hv, _⟩ | ⟨g', cap', cur, hv, hb, hg, r⟩
 ·cases hv
 ·cases hv; simp [World.frozen?, hg]
end Go.Proofs.YtgokmkholjfhbaaGreat

