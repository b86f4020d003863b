/-
  PkAF: BxS CtA PxA, one behind the other (tools/pack.py).
-/
import Derived.Test.YtabkbfopklpckaaGreatPkAE
import Derived.Test.YtabkbfopklpckaaGreatPkAC
import Derived.Test.YtabkbfopklpckaaGreatPkAD
import Derived.RegionTactic
import Derived.BigRegion
import Derived.Test.YtabkbfopklpckaaGreatProg
import Derived.Test.YtabkbfopklpckaaGreatPkAA
set_option linter.unusedVariables false
set_option linter.unusedSimpArgs false
namespace Go.Proofs.YtabkbfopklpckaaGreat.Xb
open Go.RowKit
theorem RowS.one2 (w : World) (b : Nat) {x y : Int} (a n : Nat) {B : Nat} (hB : B = w.heap.size) (hx : x = (a : Int)) (hy : y = (n : Int)) (hb : b ≤ w.heap.size) : RowS (w.alloc (.cells #[.int .u16 x, .int .u16 y] 60)) b (.slice (some ⟨B, 0, none⟩) 1 1) [(a, n)] := by
 subst hx hy hB; exact RowS.one w b (a, n) hb
theorem RowR.one2 (w : World) (b : Nat) {x y : Int} (a n : Nat) {B : Nat} (hB : B = w.heap.size) (hx : x = (a : Int)) (hy : y = (n : Int)) (hb : b ≤ w.heap.size) : RowR (w.alloc (.cells #[.int .u32 x, .int .u32 y] 83)) b (.slice (some ⟨B, 0, none⟩) 1 1) [(a, n)] := by
 subst hx hy hB; exact RowR.one w b (a, n) hb
def chkS (a b : Nat) : Int := if b < a then 30 else 0
theorem checkS (a b : Nat) (w : World) :
  Calls Tryz.prog 104 #[.agg #[.int .u16 a, .int .u16 b]] w fun e w' => e = .returned (.int .i64 (chkS a b)) ∧ Below w.heap.size w w' := by
 by_cases h : b < a
 ·rw [show chkS a b = 30 from if_pos h]
  have h' : (b : Int) < (a : Int) := by omega
  clear h
  go_enter Tryz.func104, Tryz.ntmps104
  go_wp2
  go_ret
  exact ⟨rfl, by (repeat (first | assumption | exact Below.refl _ _ | refine Below.drew ?_ | refine bel_drewN ?_ _ | refine Below.setCell ?_ (by first | omega | (simp; done) | (simp; omega)) _ | refine Below.alloc ?_ (by first | omega | (simp; done) | (simp; omega)) _ | refine bel_of ?_ (by assumption)))⟩
 ·rw [show chkS a b = 0 from if_neg h]
  have h' : ¬ (b : Int) < (a : Int) := by omega
  clear h
  go_enter Tryz.func104, Tryz.ntmps104
  go_wp2
  go_ret
  exact ⟨rfl, by (repeat (first | assumption | exact Below.refl _ _ | refine Below.drew ?_ | refine bel_drewN ?_ _ | refine Below.setCell ?_ (by first | omega | (simp; done) | (simp; omega)) _ | refine Below.alloc ?_ (by first | omega | (simp; done) | (simp; omega)) _ | refine bel_of ?_ (by assumption)))⟩
theorem meetS_yes (a b c d : Nat) (w : World) (h : max a c ≤ min b d) :
  Calls Tryz.prog 97 #[.agg #[.int .u16 a, .int .u16 b], .agg #[.int .u16 c, .int .u16 d]] w fun e w' => e = .returned (.tuple #[.agg #[.int .u16 (max a c : Nat), .int .u16 (min b d : Nat)], .bool true]) ∧ Below w.heap.size w w' := by
 by_cases h1 : a < c
 ·rw [show max a c = c by omega] at h ⊢
  by_cases h2 : d < b
  ·rw [show min b d = d by omega] at h ⊢
   have h3 : ¬ (d < c) := by omega
   clear h
   go_enter Tryz.func97, Tryz.ntmps97
   go_wp2
   exact bodyPost_ret (v := .tuple #[.agg #[.int .u16 c, .int .u16 d], .bool true]) (by simp [results, Tryz.results97, go_sem]) rfl ⟨rfl, by (repeat (first | assumption | exact Below.refl _ _ | refine Below.drew ?_ | refine bel_drewN ?_ _ | refine Below.setCell ?_ (by first | omega | (simp; done) | (simp; omega)) _ | refine Below.alloc ?_ (by first | omega | (simp; done) | (simp; omega)) _ | refine bel_of ?_ (by assumption)))⟩
  ·rw [show min b d = b by omega] at h ⊢
   have h3 : ¬ (b < c) := by omega
   clear h
   go_enter Tryz.func97, Tryz.ntmps97
   go_wp2
   exact bodyPost_ret (v := .tuple #[.agg #[.int .u16 c, .int .u16 b], .bool true]) (by simp [results, Tryz.results97, go_sem]) rfl ⟨rfl, by (repeat (first | assumption | exact Below.refl _ _ | refine Below.drew ?_ | refine bel_drewN ?_ _ | refine Below.setCell ?_ (by first | omega | (simp; done) | (simp; omega)) _ | refine Below.alloc ?_ (by first | omega | (simp; done) | (simp; omega)) _ | refine bel_of ?_ (by assumption)))⟩
 ·rw [show max a c = a by omega] at h ⊢
  by_cases h2 : d < b
  ·rw [show min b d = d by omega] at h ⊢
   have h3 : ¬ (d < a) := by omega
   clear h
   go_enter Tryz.func97, Tryz.ntmps97
   go_wp2
   exact bodyPost_ret (v := .tuple #[.agg #[.int .u16 a, .int .u16 d], .bool true]) (by simp [results, Tryz.results97, go_sem]) rfl ⟨rfl, by (repeat (first | assumption | exact Below.refl _ _ | refine Below.drew ?_ | refine bel_drewN ?_ _ | refine Below.setCell ?_ (by first | omega | (simp; done) | (simp; omega)) _ | refine Below.alloc ?_ (by first | omega | (simp; done) | (simp; omega)) _ | refine bel_of ?_ (by assumption)))⟩
  ·rw [show min b d = b by omega] at h ⊢
   have h3 : ¬ (b < a) := by omega
   clear h
   go_enter Tryz.func97, Tryz.ntmps97
   go_wp2
   exact bodyPost_ret (v := .tuple #[.agg #[.int .u16 a, .int .u16 b], .bool true]) (by simp [results, Tryz.results97, go_sem]) rfl ⟨rfl, by (repeat (first | assumption | exact Below.refl _ _ | refine Below.drew ?_ | refine bel_drewN ?_ _ | refine Below.setCell ?_ (by first | omega | (simp; done) | (simp; omega)) _ | refine Below.alloc ?_ (by first | omega | (simp; done) | (simp; omega)) _ | refine bel_of ?_ (by assumption)))⟩
theorem meetS_no (a b c d : Nat) (w : World) (h : ¬ max a c ≤ min b d) :
  Calls Tryz.prog 97 #[.agg #[.int .u16 a, .int .u16 b], .agg #[.int .u16 c, .int .u16 d]] w fun e w' => e = .returned (.tuple #[.agg #[.int .u16 0, .int .u16 0], .bool false]) ∧ Below w.heap.size w w' := by
 by_cases h1 : a < c
 ·rw [show max a c = c by omega] at h
  by_cases h2 : d < b
  ·rw [show min b d = d by omega] at h
   have h3 : d < c := by omega
   clear h
   go_enter Tryz.func97, Tryz.ntmps97
   go_wp2
   exact bodyPost_ret (v := .tuple #[.agg #[.int .u16 0, .int .u16 0], .bool false]) (by simp [results, Tryz.results97, go_sem]) rfl ⟨rfl, by (repeat (first | assumption | exact Below.refl _ _ | refine Below.drew ?_ | refine bel_drewN ?_ _ | refine Below.setCell ?_ (by first | omega | (simp; done) | (simp; omega)) _ | refine Below.alloc ?_ (by first | omega | (simp; done) | (simp; omega)) _ | refine bel_of ?_ (by assumption)))⟩
  ·rw [show min b d = b by omega] at h
   have h3 : b < c := by omega
   clear h
   go_enter Tryz.func97, Tryz.ntmps97
   go_wp2
   exact bodyPost_ret (v := .tuple #[.agg #[.int .u16 0, .int .u16 0], .bool false]) (by simp [results, Tryz.results97, go_sem]) rfl ⟨rfl, by (repeat (first | assumption | exact Below.refl _ _ | refine Below.drew ?_ | refine bel_drewN ?_ _ | refine Below.setCell ?_ (by first | omega | (simp; done) | (simp; omega)) _ | refine Below.alloc ?_ (by first | omega | (simp; done) | (simp; omega)) _ | refine bel_of ?_ (by assumption)))⟩
 ·rw [show max a c = a by omega] at h
  by_cases h2 : d < b
  ·rw [show min b d = d by omega] at h
   have h3 : d < a := by omega
   clear h
   go_enter Tryz.func97, Tryz.ntmps97
   go_wp2
   exact bodyPost_ret (v := .tuple #[.agg #[.int .u16 0, .int .u16 0], .bool false]) (by simp [results, Tryz.results97, go_sem]) rfl ⟨rfl, by (repeat (first | assumption | exact Below.refl _ _ | refine Below.drew ?_ | refine bel_drewN ?_ _ | refine Below.setCell ?_ (by first | omega | (simp; done) | (simp; omega)) _ | refine Below.alloc ?_ (by first | omega | (simp; done) | (simp; omega)) _ | refine bel_of ?_ (by assumption)))⟩
  ·rw [show min b d = b by omega] at h
   have h3 : b < a := by omega
   clear h
   go_enter Tryz.func97, Tryz.ntmps97
   go_wp2
   exact bodyPost_ret (v := .tuple #[.agg #[.int .u16 0, .int .u16 0], .bool false]) (by simp [results, Tryz.results97, go_sem]) rfl ⟨rfl, by (repeat (first | assumption | exact Below.refl _ _ | refine Below.drew ?_ | refine bel_drewN ?_ _ | refine Below.setCell ?_ (by first | omega | (simp; done) | (simp; omega)) _ | refine Below.alloc ?_ (by first | omega | (simp; done) | (simp; omega)) _ | refine bel_of ?_ (by assumption)))⟩
end Go.Proofs.YtabkbfopklpckaaGreat.Xb
namespace Go.Proofs.YtabkbfopklpckaaGreat
open Go.RowKit
theorem fieldC0 (B o : Nat) (w : World) : Calls Tryz.prog 90 #[.pointer (some ⟨B, o, none⟩)] w fun e w' => e = .returned (.pointer (some ⟨B, o, none⟩)) ∧ w' = w := by
 go_enter Tryz.func90, Tryz.ntmps90
 go_wp2
 go_ret
 exact ⟨rfl, rfl⟩
theorem fieldC1 (B o : Nat) (w : World) : Calls Tryz.prog 93 #[.pointer (some ⟨B, o, none⟩)] w fun e w' => e = .returned (.pointer (some ⟨B, o + 2, none⟩)) ∧ w' = w := by
 go_enter Tryz.func93, Tryz.ntmps93
 go_wp2
 go_ret
 exact ⟨rfl, rfl⟩
theorem fieldC2 (B o : Nat) (w : World) : Calls Tryz.prog 95 #[.pointer (some ⟨B, o, none⟩)] w fun e w' => e = .returned (.pointer (some ⟨B, o + 4, none⟩)) ∧ w' = w := by
 go_enter Tryz.func95, Tryz.ntmps95
 go_wp2
 go_ret
 exact ⟨rfl, rfl⟩
theorem fieldC3 (B o : Nat) (w : World) : Calls Tryz.prog 98 #[.pointer (some ⟨B, o, none⟩)] w fun e w' => e = .returned (.pointer (some ⟨B, o + 6, none⟩)) ∧ w' = w := by
 go_enter Tryz.func98, Tryz.ntmps98
 go_wp2
 go_ret
 exact ⟨rfl, rfl⟩
theorem fieldC4 (B o : Nat) (w : World) : Calls Tryz.prog 100 #[.pointer (some ⟨B, o, none⟩)] w fun e w' => e = .returned (.pointer (some ⟨B, o + 8, none⟩)) ∧ w' = w := by
 go_enter Tryz.func100, Tryz.ntmps100
 go_wp2
 go_ret
 exact ⟨rfl, rfl⟩
theorem midst32 (a b : Nat) (w : World) (ha : a < 4294967296) (hb : b < 4294967296) (h : a ≤ b) : Calls Tryz.prog 125 #[.int .u32 a, .int .u32 b] w fun e w' => e = .returned (.tuple #[.int .u32 ((midI (a, b) : Nat) : Int), .bool (decide (a < b))]) ∧ w' = w := by
 have h1 : ((b : Int) - (a : Int)) % 4294967296 = (b : Int) - (a : Int) := by omega
 have h2 : (0 : Int) ≤ (b : Int) - (a : Int) := by omega
 have h5 : ((midI (a, b) : Nat) : Int) = (a : Int) + ((b : Int) - (a : Int)) / 2 := by unfold midI; simp only; omega
 have h3 : ((b : Int) - (a : Int)).tdiv 2 = ((b : Int) - (a : Int)) / 2 := Int.tdiv_eq_ediv_of_nonneg h2
 have h4 : ((a : Int) + ((b : Int) - (a : Int)) / 2) % 4294967296 = (a : Int) + ((b : Int) - (a : Int)) / 2 := by omega
 have h6 : (((b : Int) - (a : Int)) / 2) % 4294967296 = ((b : Int) - (a : Int)) / 2 := by omega
 rw [h5]
 go_enter Tryz.func125, Tryz.ntmps125
 go_wp2
 exact bodyPost_ret (v := .tuple #[.int .u32 ((a : Int) + ((b : Int) - (a : Int)) / 2), .bool (decide (a < b))]) (by simp [results, Tryz.results125, go_sem, h1, h3, h4, h6]) rfl ⟨rfl, rfl⟩
theorem midst16 (a b : Nat) (w : World) (ha : a < 65536) (hb : b < 65536) (h : a ≤ b) : Calls Tryz.prog 128 #[.int .u16 a, .int .u16 b] w fun e w' => e = .returned (.tuple #[.int .u16 ((midI (a, b) : Nat) : Int), .bool (decide (a < b))]) ∧ w' = w := by
 have h1 : ((b : Int) - (a : Int)) % 65536 = (b : Int) - (a : Int) := by omega
 have h2 : (0 : Int) ≤ (b : Int) - (a : Int) := by omega
 have h5 : ((midI (a, b) : Nat) : Int) = (a : Int) + ((b : Int) - (a : Int)) / 2 := by unfold midI; simp only; omega
 have h3 : ((b : Int) - (a : Int)).tdiv 2 = ((b : Int) - (a : Int)) / 2 := Int.tdiv_eq_ediv_of_nonneg h2
 have h4 : ((a : Int) + ((b : Int) - (a : Int)) / 2) % 65536 = (a : Int) + ((b : Int) - (a : Int)) / 2 := by omega
 have h6 : (((b : Int) - (a : Int)) / 2) % 65536 = ((b : Int) - (a : Int)) / 2 := by omega
 rw [h5]
 go_enter Tryz.func128, Tryz.ntmps128
 go_wp2
 exact bodyPost_ret (v := .tuple #[.int .u16 ((a : Int) + ((b : Int) - (a : Int)) / 2), .bool (decide (a < b))]) (by simp [results, Tryz.results128, go_sem, h1, h3, h4, h6]) rfl ⟨rfl, rfl⟩
set_option maxHeartbeats 2000000 in
theorem halveRunC (a b : Nat) (ha : a < 4294967296) (hb : b < 4294967296) (h : a ≤ b) : ∃ u v : Nat × Nat, (halI (a, b) = some (u, v) ∨ halI (a, b) = none) ∧ u.1 < 4294967296 ∧ u.2 < 4294967296 ∧ v.1 < 4294967296 ∧ v.2 < 4294967296 ∧ ∀ w : World, Calls Tryz.prog 91 #[.agg #[.int .u32 a, .int .u32 b]] w fun e w' => e = .returned (.tuple #[.agg #[.int .u32 u.1, .int .u32 u.2], .agg #[.int .u32 v.1, .int .u32 v.2], .bool (halI (a, b)).isSome]) ∧ Below w.heap.size w w' := by
 have hm1 : midI (a, b) < 4294967296 := by unfold midI; simp only; omega
 have hs : (halI (a, b)).isSome = decide (a < b) := by
  unfold halI
  by_cases e : a < b
  ·rw [if_pos e]; simp [e]
  ·rw [if_neg e]; simp [e]
 refine ⟨(a, midI (a, b)), ((midI (a, b) + 1) % 4294967296, b), ?_, ha, hm1, Nat.mod_lt _ (by decide), hb, fun w => ?_⟩
 ·unfold halI
  by_cases e : a < b
  ·rw [if_pos e]
   refine .inl ?_
   have : midI (a, b) + 1 ≤ b := by unfold midI; simp only; omega
   rw [Nat.mod_eq_of_lt (by omega)]
  ·rw [if_neg e]; exact .inr rfl
 rw [hs]
 have k := fun W => midst32 a b W ha hb h
 have e1 : (((midI (a, b) + 1) % 4294967296 : Nat) : Int) = (((midI (a, b) : Nat) : Int) + 1) % 4294967296 := by omega
 simp only [e1]
 clear hs e1
 generalize midI (a, b) = m at *
 generalize decide (a < b) = c at *
 clear h
 go_enter Tryz.func91, Tryz.ntmps91
 go_wp2_with (go_at_call 125; refine (k _).mono ?_; rintro e w' ⟨rfl, hw⟩; obtain rfl := hw.symm; clear hw)
 go_region
 all_goals go_wp2
 all_goals (refine bodyPost_ret (v := .tuple #[.agg #[.int .u32 a, .int .u32 m], .agg #[.int .u32 (((m : Int) + 1) % 4294967296), .int .u32 b], .bool c]) (by simp [results, Tryz.results91, go_sem, IntKind.wrap, IntKind.signed]) rfl ⟨rfl, ?_⟩; (repeat (first | assumption | exact Below.refl _ _ | refine Below.drew ?_ | refine bel_drewN ?_ _ | refine Below.setCell ?_ (by first | omega | (simp; done) | (simp; omega)) _ | refine Below.alloc ?_ (by first | omega | (simp; done) | (simp; omega)) _ | refine bel_of ?_ (by assumption))))
set_option maxHeartbeats 2000000 in
theorem halveSpanC (a b : Nat) (ha : a < 65536) (hb : b < 65536) (h : a ≤ b) : ∃ u v : Nat × Nat, (halI (a, b) = some (u, v) ∨ halI (a, b) = none) ∧ u.1 < 65536 ∧ u.2 < 65536 ∧ v.1 < 65536 ∧ v.2 < 65536 ∧ ∀ w : World, Calls Tryz.prog 96 #[.agg #[.int .u16 a, .int .u16 b]] w fun e w' => e = .returned (.tuple #[.agg #[.int .u16 u.1, .int .u16 u.2], .agg #[.int .u16 v.1, .int .u16 v.2], .bool (halI (a, b)).isSome]) ∧ Below w.heap.size w w' := by
 have hm1 : midI (a, b) < 65536 := by unfold midI; simp only; omega
 have hs : (halI (a, b)).isSome = decide (a < b) := by
  unfold halI
  by_cases e : a < b
  ·rw [if_pos e]; simp [e]
  ·rw [if_neg e]; simp [e]
 refine ⟨(a, midI (a, b)), ((midI (a, b) + 1) % 65536, b), ?_, ha, hm1, Nat.mod_lt _ (by decide), hb, fun w => ?_⟩
 ·unfold halI
  by_cases e : a < b
  ·rw [if_pos e]
   refine .inl ?_
   have : midI (a, b) + 1 ≤ b := by unfold midI; simp only; omega
   rw [Nat.mod_eq_of_lt (by omega)]
  ·rw [if_neg e]; exact .inr rfl
 rw [hs]
 have k := fun W => midst16 a b W ha hb h
 have e1 : (((midI (a, b) + 1) % 65536 : Nat) : Int) = (((midI (a, b) : Nat) : Int) + 1) % 65536 := by omega
 simp only [e1]
 clear hs e1
 generalize midI (a, b) = m at *
 generalize decide (a < b) = c at *
 clear h
 go_enter Tryz.func96, Tryz.ntmps96
 go_wp2_with (go_at_call 128; refine (k _).mono ?_; rintro e w' ⟨rfl, hw⟩; obtain rfl := hw.symm; clear hw)
 go_region
 all_goals go_wp2
 all_goals (refine bodyPost_ret (v := .tuple #[.agg #[.int .u16 a, .int .u16 m], .agg #[.int .u16 (((m : Int) + 1) % 65536), .int .u16 b], .bool c]) (by simp [results, Tryz.results96, go_sem, IntKind.wrap, IntKind.signed]) rfl ⟨rfl, ?_⟩; (repeat (first | assumption | exact Below.refl _ _ | refine Below.drew ?_ | refine bel_drewN ?_ _ | refine Below.setCell ?_ (by first | omega | (simp; done) | (simp; omega)) _ | refine Below.alloc ?_ (by first | omega | (simp; done) | (simp; omega)) _ | refine bel_of ?_ (by assumption))))
theorem meetRun_yes (a b c d : Nat) (w : World) (h : max a c ≤ min b d) :
  Calls Tryz.prog 92 #[.agg #[.int .u32 a, .int .u32 b], .agg #[.int .u32 c, .int .u32 d]] w fun e w' => e = .returned (.tuple #[.agg #[.int .u32 ((max a c : Nat) : Int), .int .u32 ((min b d : Nat) : Int)], .bool true]) ∧ Below w.heap.size w w' := by
 by_cases h1 : a < c
 ·rw [show max a c = c by omega] at h ⊢
  by_cases h2 : d < b
  ·rw [show min b d = d by omega] at h ⊢
   have h3 : ¬ (d < c) := by omega
   clear h
   go_enter Tryz.func92, Tryz.ntmps92
   go_wp2
   exact bodyPost_ret (v := .tuple #[.agg #[.int .u32 c, .int .u32 d], .bool true]) (by simp [results, Tryz.results92, go_sem]) rfl ⟨rfl, by (repeat (first | assumption | exact Below.refl _ _ | refine Below.drew ?_ | refine bel_drewN ?_ _ | refine Below.setCell ?_ (by first | omega | (simp; done) | (simp; omega)) _ | refine Below.alloc ?_ (by first | omega | (simp; done) | (simp; omega)) _ | refine bel_of ?_ (by assumption)))⟩
  ·rw [show min b d = b by omega] at h ⊢
   have h3 : ¬ (b < c) := by omega
   clear h
   go_enter Tryz.func92, Tryz.ntmps92
   go_wp2
   exact bodyPost_ret (v := .tuple #[.agg #[.int .u32 c, .int .u32 b], .bool true]) (by simp [results, Tryz.results92, go_sem]) rfl ⟨rfl, by (repeat (first | assumption | exact Below.refl _ _ | refine Below.drew ?_ | refine bel_drewN ?_ _ | refine Below.setCell ?_ (by first | omega | (simp; done) | (simp; omega)) _ | refine Below.alloc ?_ (by first | omega | (simp; done) | (simp; omega)) _ | refine bel_of ?_ (by assumption)))⟩
 ·rw [show max a c = a by omega] at h ⊢
  by_cases h2 : d < b
  ·rw [show min b d = d by omega] at h ⊢
   have h3 : ¬ (d < a) := by omega
   clear h
   go_enter Tryz.func92, Tryz.ntmps92
   go_wp2
   exact bodyPost_ret (v := .tuple #[.agg #[.int .u32 a, .int .u32 d], .bool true]) (by simp [results, Tryz.results92, go_sem]) rfl ⟨rfl, by (repeat (first | assumption | exact Below.refl _ _ | refine Below.drew ?_ | refine bel_drewN ?_ _ | refine Below.setCell ?_ (by first | omega | (simp; done) | (simp; omega)) _ | refine Below.alloc ?_ (by first | omega | (simp; done) | (simp; omega)) _ | refine bel_of ?_ (by assumption)))⟩
  ·rw [show min b d = b by omega] at h ⊢
   have h3 : ¬ (b < a) := by omega
   clear h
   go_enter Tryz.func92, Tryz.ntmps92
   go_wp2
   exact bodyPost_ret (v := .tuple #[.agg #[.int .u32 a, .int .u32 b], .bool true]) (by simp [results, Tryz.results92, go_sem]) rfl ⟨rfl, by (repeat (first | assumption | exact Below.refl _ _ | refine Below.drew ?_ | refine bel_drewN ?_ _ | refine Below.setCell ?_ (by first | omega | (simp; done) | (simp; omega)) _ | refine Below.alloc ?_ (by first | omega | (simp; done) | (simp; omega)) _ | refine bel_of ?_ (by assumption)))⟩
theorem meetRun_no (a b c d : Nat) (w : World) (h : ¬ max a c ≤ min b d) :
  Calls Tryz.prog 92 #[.agg #[.int .u32 a, .int .u32 b], .agg #[.int .u32 c, .int .u32 d]] w fun e w' => e = .returned (.tuple #[.agg #[.int .u32 0, .int .u32 0], .bool false]) ∧ Below w.heap.size w w' := by
 by_cases h1 : a < c
 ·rw [show max a c = c by omega] at h
  by_cases h2 : d < b
  ·rw [show min b d = d by omega] at h
   have h3 : d < c := by omega
   clear h
   go_enter Tryz.func92, Tryz.ntmps92
   go_wp2
   exact bodyPost_ret (v := .tuple #[.agg #[.int .u32 0, .int .u32 0], .bool false]) (by simp [results, Tryz.results92, go_sem]) rfl ⟨rfl, by (repeat (first | assumption | exact Below.refl _ _ | refine Below.drew ?_ | refine bel_drewN ?_ _ | refine Below.setCell ?_ (by first | omega | (simp; done) | (simp; omega)) _ | refine Below.alloc ?_ (by first | omega | (simp; done) | (simp; omega)) _ | refine bel_of ?_ (by assumption)))⟩
  ·rw [show min b d = b by omega] at h
   have h3 : b < c := by omega
   clear h
   go_enter Tryz.func92, Tryz.ntmps92
   go_wp2
   exact bodyPost_ret (v := .tuple #[.agg #[.int .u32 0, .int .u32 0], .bool false]) (by simp [results, Tryz.results92, go_sem]) rfl ⟨rfl, by (repeat (first | assumption | exact Below.refl _ _ | refine Below.drew ?_ | refine bel_drewN ?_ _ | refine Below.setCell ?_ (by first | omega | (simp; done) | (simp; omega)) _ | refine Below.alloc ?_ (by first | omega | (simp; done) | (simp; omega)) _ | refine bel_of ?_ (by assumption)))⟩
 ·rw [show max a c = a by omega] at h
  by_cases h2 : d < b
  ·rw [show min b d = d by omega] at h
   have h3 : d < a := by omega
   clear h
   go_enter Tryz.func92, Tryz.ntmps92
   go_wp2
   exact bodyPost_ret (v := .tuple #[.agg #[.int .u32 0, .int .u32 0], .bool false]) (by simp [results, Tryz.results92, go_sem]) rfl ⟨rfl, by (repeat (first | assumption | exact Below.refl _ _ | refine Below.drew ?_ | refine bel_drewN ?_ _ | refine Below.setCell ?_ (by first | omega | (simp; done) | (simp; omega)) _ | refine Below.alloc ?_ (by first | omega | (simp; done) | (simp; omega)) _ | refine bel_of ?_ (by assumption)))⟩
  ·rw [show min b d = b by omega] at h
   have h3 : b < a := by omega
   clear h
   go_enter Tryz.func92, Tryz.ntmps92
   go_wp2
   exact bodyPost_ret (v := .tuple #[.agg #[.int .u32 0, .int .u32 0], .bool false]) (by simp [results, Tryz.results92, go_sem]) rfl ⟨rfl, by (repeat (first | assumption | exact Below.refl _ _ | refine Below.drew ?_ | refine bel_drewN ?_ _ | refine Below.setCell ?_ (by first | omega | (simp; done) | (simp; omega)) _ | refine Below.alloc ?_ (by first | omega | (simp; done) | (simp; omega)) _ | refine bel_of ?_ (by assumption)))⟩
end Go.Proofs.YtabkbfopklpckaaGreat
namespace Go.Proofs.YtabkbfopklpckaaGreat.Pf
open Go.RowKit
theorem isLength_in (n : Nat) (w : World) (hn : n ≤ 32) :
  Calls Tryz.prog 114 #[.int .i64 n] w fun e w' => e = .returned (.bool true) ∧ w' = w := by
 have h1 : (0 : Int) ≤ n := by omega
 have h2 : (n : Int) ≤ 32 := by omega
 have d1 : decide ((0 : Int) ≤ n) = true := decide_eq_true h1
 have d2 : decide ((n : Int) ≤ 32) = true := decide_eq_true h2
 go_enter Tryz.func114, Tryz.ntmps114
 go_wp2
 go_ret
 exact ⟨rfl, rfl⟩
theorem isLength_out (n : Int) (w : World) (hn : n < 0 ∨ 32 < n) :
  Calls Tryz.prog 114 #[.int .i64 n] w fun e w' => e = .returned (.bool false) ∧ w' = w := by
 rcases hn with hn | hn
 ·have d1 : decide ((0 : Int) ≤ n) = false := decide_eq_false (by omega)
  go_enter Tryz.func114, Tryz.ntmps114
  go_wp2
  go_ret
  exact ⟨rfl, rfl⟩
 ·have d1 : decide ((0 : Int) ≤ n) = true := decide_eq_true (by omega)
  have d2 : decide (n ≤ (32 : Int)) = false := decide_eq_false (by omega)
  go_enter Tryz.func114, Tryz.ntmps114
  go_wp2
  go_ret
  exact ⟨rfl, rfl⟩
theorem beyond_any (n : Nat) (w : World) (hn : n ≤ 32) :
  Calls Tryz.prog 115 #[.int .i64 n] w fun e w' => e = .returned (.int .u32 ((bk n - 1 : Nat) : Int)) ∧ w' = w := by
 go_enter Tryz.func115, Tryz.ntmps115
 go_wp2
 go_ret
 exact ⟨ret_int (shr_int n hn), rfl⟩
theorem first_any (a n : Nat) (w : World) (ha : a < 4294967296) (hn : n ≤ 32) :
  Calls Tryz.prog 78 #[.int .u32 a, .int .i64 n] w fun e w' => e = .returned (.agg #[.int .u32 (ct a n : Int), .int .i64 n]) ∧ Below w.heap.size w w' := by
 have hand := andNot_lw a n ha
 go_enter Tryz.func78, Tryz.ntmps78
 go_wp2_with (go_at_call 115; refine (beyond_any n _ hn).mono ?_; rintro e w' ⟨rfl, hw⟩; obtain rfl := hw.symm; clear hw)
 exact bodyPost_ret (v := .agg #[.int .u32 (ct a n : Int), .int .i64 n]) (by simp [results, Tryz.results78, go_sem]) rfl ⟨rfl, (Below.refl _ _).alloc (Nat.le_refl _) _⟩
theorem check_any (a : Nat) (n : Int) (w : World) (ha : a < 4294967296) :
  Calls Tryz.prog 77 #[.agg #[.int .u32 a, .int .i64 n]] w fun e w' => e = .returned (.int .i64 (chk a n)) ∧ Below w.heap.size w w' := by
 by_cases hn : n < 0 ∨ 32 < n
 ·rw [chk_out a n hn]
  go_enter Tryz.func77, Tryz.ntmps77
  go_wp2_with (go_at_call 114; refine (isLength_out n _ hn).mono ?_; rintro e w' ⟨rfl, hw⟩; obtain rfl := hw.symm; clear hw)
  go_ret
  exact ⟨rfl, (Below.refl _ _).alloc (Nat.le_refl _) _⟩
 ·obtain ⟨m, rfl⟩ : ∃ m : Nat, n = (m : Int) := ⟨n.toNat, by omega⟩
  have hm : m ≤ 32 := by omega
  clear hn
  have hand := and_lw a m ha
  by_cases h0 : a % bk m = 0
  ·rw [chk_in a m hm h0]
   rw [h0] at hand
   clear h0
   go_enter Tryz.func77, Tryz.ntmps77
   go_wp2_with (go_at_call 114; refine (isLength_in m _ hm).mono ?_; rintro e w' ⟨rfl, hw⟩; obtain rfl := hw.symm; clear hw)
   go_quiet ((go_at_call 115; exact Calls.quiet_of_same (beyond_any m _ hm)))
   go_wp2
   go_ret
   exact ⟨rfl, bel_drewN ((Below.refl _ _).alloc (Nat.le_refl _) _) _⟩
  ·rw [chk_bits a m hm h0]
   have h0' : ¬ ((a % bk m : Nat) : Int) = 0 := by omega
   have d0 : (((a % bk m : Nat) : Int) != 0) = true := by simpa using h0'
   clear h0
   go_enter Tryz.func77, Tryz.ntmps77
   go_wp2_with (go_at_call 114; refine (isLength_in m _ hm).mono ?_; rintro e w' ⟨rfl, hw⟩; obtain rfl := hw.symm; clear hw)
   go_quiet ((go_at_call 115; exact Calls.quiet_of_same (beyond_any m _ hm)))
   go_wp2
   go_ret
   exact ⟨rfl, bel_drewN ((Below.refl _ _).alloc (Nat.le_refl _) _) _⟩
end Go.Proofs.YtabkbfopklpckaaGreat.Pf
