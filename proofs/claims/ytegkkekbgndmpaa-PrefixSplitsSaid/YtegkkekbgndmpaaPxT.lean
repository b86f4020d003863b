/-
  What Common of the document's answer hands back.
-/
import Derived.Test.YtegkkekbgndmpaaPxS
namespace Go.Proofs.Ytegkkekbgndmpaa
open Go.RowKit
set_option linter.unusedVariables false
set_option linter.unusedSimpArgs false
attribute [local go_sem ↓] Go.wp_at_zero Go.wp_at_succ

theorem cell_on {W w1 : World} (hb : Below W.heap.size W w1) {p : Addr} {v : Value} (h : W.cell? p = some v) : w1.cell? p = some v := (hb.cell (World.block_lt_of_cell? W p h)).trans h
theorem frozen_on {W w1 : World} (hb : Below W.heap.size W w1) {p : Addr} {v : Value} (h : W.cell? p = some v) {c : Bool} (hf : W.frozen? p = c) : w1.frozen? p = c := (hb.frozen (World.block_lt_of_cell? W p h)).trans hf
theorem cell_alloc {W : World} {o : Obj} {p : Addr} {v : Value} (h : W.cell? p = some v) : (W.alloc o).cell? p = some v := (World.cell?_alloc_lt W o p (World.block_lt_of_cell? W p h)).trans h
theorem frozen_alloc {W : World} {o : Obj} {b i : Nat} {v : Value} (h : W.cell? ⟨b, i, none⟩ = some v) {c : Bool} (hf : W.frozen? ⟨b, i, none⟩ = c) : (W.alloc o).frozen? ⟨b, i, none⟩ = c := (World.frozen?_alloc_past o b i (World.block_lt_of_cell? W _ h)).trans hf
set_option maxHeartbeats 1000000 in
theorem rcommon_no (a : Nat) (n : Int) (b : Nat) (m : Int) (w : World) (ha : a < 4294967296) (hb : b < 4294967296) (h : cE a n b m ≠ 0) :
    Calls Try.prog 21 #[.agg #[.int .u32 a, .int .i64 n], .agg #[.int .u32 b, .int .i64 m]] w fun e w' => e = .returned (.tuple #[.agg #[.int .u32 (cA a n b m : Int), .int .i64 (cN a n b m : Int)], .int .i64 (cE a n b m)]) ∧ Below w.heap.size w w' := by
  rw [show (cA a n b m : Int) = 0 by simp [cA, h], show (cN a n b m : Int) = 0 by simp [cN, h]]
  have lt1 : w.heap.size < w.heap.size + 1 + 1 := by omega
  have lt2 : w.heap.size < w.heap.size + 1 + 1 + 1 := by omega
  have lt3 : w.heap.size + 1 < w.heap.size + 1 + 1 + 1 := by omega
  by_cases k : chk a n = 0
  · have e : cE a n b m = chk b m := by simp [cE, k]
    rw [e] at h
    rw [e]
    have h' : (chk b m != 0) = true := by simpa using h
    clear e
    go_enter Try.func21, Try.ntmps21
    go_wp2_with (go_at_call 19; refine (rcheck_any _ _ _ (by assumption)).mono ?_; rintro e w1 ⟨rfl, hb1⟩; obtain ⟨hc1, hf1⟩ := bcell hb1; have hz1 := hb1.size; (try simp at hz1); (try (have hl10 : w.heap.size < w1.heap.size := (by omega))); (try (have hl11 : w.heap.size + 1 < w1.heap.size := (by omega))); (try (have hl12 : w.heap.size + 1 + 1 < w1.heap.size := (by omega))); (try (have hl13 : w.heap.size + 1 + 1 + 1 < w1.heap.size := (by omega))))
    exact bodyPost_ret (v := .tuple #[.agg #[.int .u32 0, .int .i64 0], .int .i64 (chk b m)]) (by simp [results, Try.results21, go_sem, *]) rfl ⟨rfl, by (repeat (first | assumption | exact Below.refl _ _ | refine Below.drew ?_ | refine bel_drewN ?_ _ | refine Below.setCell ?_ (by first | omega | (simp; done) | (simp; omega)) _ | refine Below.alloc ?_ (by first | omega | (simp; done) | (simp; omega)) _ | refine bel_of ?_ (by assumption)))⟩
  · have e : cE a n b m = chk a n := by simp [cE, k]
    rw [e]
    have h' : (chk a n != 0) = true := by simpa using k
    clear e h
    go_enter Try.func21, Try.ntmps21
    go_wp2_with (go_at_call 19; refine (rcheck_any _ _ _ (by assumption)).mono ?_; rintro e w1 ⟨rfl, hb1⟩; obtain ⟨hc1, hf1⟩ := bcell hb1; have hz1 := hb1.size; (try simp at hz1); (try (have hl10 : w.heap.size < w1.heap.size := (by omega))); (try (have hl11 : w.heap.size + 1 < w1.heap.size := (by omega))); (try (have hl12 : w.heap.size + 1 + 1 < w1.heap.size := (by omega))); (try (have hl13 : w.heap.size + 1 + 1 + 1 < w1.heap.size := (by omega))))
    exact bodyPost_ret (v := .tuple #[.agg #[.int .u32 0, .int .i64 0], .int .i64 (chk a n)]) (by simp [results, Try.results21, go_sem, *]) rfl ⟨rfl, by (repeat (first | assumption | exact Below.refl _ _ | refine Below.drew ?_ | refine bel_drewN ?_ _ | refine Below.setCell ?_ (by first | omega | (simp; done) | (simp; omega)) _ | refine Below.alloc ?_ (by first | omega | (simp; done) | (simp; omega)) _ | refine bel_of ?_ (by assumption)))⟩
set_option maxHeartbeats 4000000 in
theorem rcommon_yes (a n b m : Nat) (w : World) (ha : a < 4294967296) (hb : b < 4294967296) (hn : n ≤ 32) (hm : m ≤ 32) (ka : chk a (n : Int) = 0) (kb : chk b (m : Int) = 0) (K : Nat) (hK : K = min (min n m) (lz a b)) :
    Calls Try.prog 21 #[.agg #[.int .u32 a, .int .i64 n], .agg #[.int .u32 b, .int .i64 m]] w fun e w' => e = .returned (.tuple #[.agg #[.int .u32 (ct a K : Int), .int .i64 (K : Int)], .int .i64 0]) ∧ Below w.heap.size w w' := by
  have HK : Hid (K = min (min n m) (lz a b)) := hK
  have hk32 : K ≤ 32 := by omega
  clear hK
  have lt1 : w.heap.size < w.heap.size + 1 + 1 := by omega
  have lt2 : w.heap.size < w.heap.size + 1 + 1 + 1 := by omega
  have lt3 : w.heap.size + 1 < w.heap.size + 1 + 1 + 1 := by omega
  have hof : ∀ (k : Nat) (w1 : World), k ≤ 32 → Calls Try.prog 10 #[.int .u32 a, .int .i64 k] w1 fun e w' => e = .returned (.tuple #[.agg #[.int .u32 (ct a k : Int), .int .i64 (k : Int)], .int .i64 0]) ∧ Below w1.heap.size w1 w' := fun k w1 hk => by
    have := rof_any a k w1 ha
    rw [show oA a k = ct a k by simp [oA]; omega, show oN k = k by simp [oN]; omega, show oE k = 0 by simp [oE]; omega] at this
    exact this
  go_enter Try.func21, Try.ntmps21
  go_wp2_with (go_at_call 19; refine (rcheck_any _ _ _ (by assumption)).mono ?_; rintro e w1 ⟨rfl, hb1⟩; obtain ⟨hc1, hf1⟩ := bcell hb1; have hz1 := hb1.size; (try simp at hz1); (try (have hl10 : w.heap.size < w1.heap.size := (by omega))); (try (have hl11 : w.heap.size + 1 < w1.heap.size := (by omega))); (try (have hl12 : w.heap.size + 1 + 1 < w1.heap.size := (by omega))); (try (have hl13 : w.heap.size + 1 + 1 + 1 < w1.heap.size := (by omega))))
  have c0 : w1.cell? ⟨w.heap.size, 0, none⟩ = some (.int .u32 a) := (by rw [hc1 _ _ (by first | omega | (simp <;> omega))]; simp [go_sem, *])
  have c1 : w1.cell? ⟨w.heap.size, 1, none⟩ = some (.int .i64 n) := (by rw [hc1 _ _ (by first | omega | (simp <;> omega))]; simp [go_sem, *])
  have c2 : w1.cell? ⟨w.heap.size + 1, 0, none⟩ = some (.int .u32 b) := (by rw [hc1 _ _ (by first | omega | (simp <;> omega))]; simp [go_sem, *])
  have c3 : w1.cell? ⟨w.heap.size + 1, 1, none⟩ = some (.int .i64 m) := (by rw [hc1 _ _ (by first | omega | (simp <;> omega))]; simp [go_sem, *])
  have c4 : w1.cell? ⟨w.heap.size + 1 + 1, 0, none⟩ = some (.int .u32 0) := (by rw [hc1 _ _ (by first | omega | (simp <;> omega))]; simp [go_sem, *])
  have c5 : w1.cell? ⟨w.heap.size + 1 + 1, 1, none⟩ = some (.int .i64 0) := (by rw [hc1 _ _ (by first | omega | (simp <;> omega))]; simp [go_sem, *])
  have g0 : w1.frozen? ⟨w.heap.size + 1 + 1, 0, none⟩ = false := (by rw [hf1 _ _ (by first | omega | (simp <;> omega))]; simp [go_sem, *])
  have g1 : w1.frozen? ⟨w.heap.size + 1 + 1, 1, none⟩ = false := (by rw [hf1 _ _ (by first | omega | (simp <;> omega))]; simp [go_sem, *])
  have hbel : Below w.heap.size w w1 := by (repeat (first | assumption | exact Below.refl _ _ | refine Below.drew ?_ | refine bel_drewN ?_ _ | refine Below.setCell ?_ (by first | omega | (simp; done) | (simp; omega)) _ | refine Below.alloc ?_ (by first | omega | (simp; done) | (simp; omega)) _ | refine bel_of ?_ (by assumption)))
  go_loopw [8] (fun i wr => ∃ k : Nat, K ≤ k ∧ k ≤ 32 ∧ i = .int .i64 k ∧ wr.cell? ⟨w.heap.size, 0, none⟩ = some (.int .u32 a) ∧ wr.cell? ⟨w.heap.size, 1, none⟩ = some (.int .i64 n) ∧ wr.cell? ⟨w.heap.size + 1, 0, none⟩ = some (.int .u32 b) ∧ wr.cell? ⟨w.heap.size + 1, 1, none⟩ = some (.int .i64 m) ∧ wr.cell? ⟨w.heap.size + 1 + 1, 0, none⟩ = some (.int .u32 0) ∧ wr.cell? ⟨w.heap.size + 1 + 1, 1, none⟩ = some (.int .i64 0) ∧ wr.frozen? ⟨w.heap.size + 1 + 1, 0, none⟩ = false ∧ wr.frozen? ⟨w.heap.size + 1 + 1, 1, none⟩ = false ∧ w.heap.size + 1 + 1 < wr.heap.size ∧ Below w.heap.size w wr) (fun i _ => (intOf i).toNat)
  case atStart => exact ⟨32, hk32, Nat.le_refl _, rfl, c0, c1, c2, c3, c4, c5, g0, g1, by omega, hbel⟩
  case round =>
    clear c0 c1 c2 c3 c4 c5 g0 g1 hbel hc1 hf1 hb1 hz1
    obtain ⟨k, hKk, hk, rfl, c0, c1, c2, c3, c4, c5, g0, g1, hls, hbel⟩ := hrel
    by_cases hk0 : k = 0
    · subst hk0
      obtain rfl : K = 0 := by omega
      have HC : Hid (ct a 0 = 0) := ct_zero a ha
      go_wp2
      exact bodyPost_ret (v := .tuple #[.agg #[.int .u32 0, .int .i64 0], .int .i64 0]) (by simp [results, Try.results21, go_sem, *]) rfl ⟨by rw [HC.out]; rfl, by (repeat (first | assumption | exact Below.refl _ _ | refine Below.drew ?_ | refine bel_drewN ?_ _ | refine Below.setCell ?_ (by first | omega | (simp; done) | (simp; omega)) _ | refine Below.alloc ?_ (by first | omega | (simp; done) | (simp; omega)) _ | refine bel_of ?_ (by assumption)))⟩
    · have hkp : 0 < k := by omega
      have hkp' : (0 : Int) < k := by omega
      have hck := ct_lt a k ha
      have eA := wit_cut a n k hk ka
      have eB := wit_cut' a b m k hk ha hb kb
      by_cases h1 : k ≤ n
      · rw [decide_eq_true h1] at eA
        by_cases h2 : k ≤ m ∧ k ≤ lz a b
        · rw [decide_eq_true h2] at eB
          have HE : Hid (k = K) := by have := HK.out; show k = K; omega
          clear h1 h2
          go_wp2_with (first | (go_at_call 10; refine (hof k _ hk).mono ?_; rintro e w1 ⟨rfl, hb1⟩; have hz1 := hb1.size; have hl10 : w.heap.size < w1.heap.size := (by omega); have hl11 : w.heap.size + 1 < w1.heap.size := (by omega); have hl12 : w.heap.size + 1 + 1 < w1.heap.size := (by omega); have dc0 := cell_on hb1 c0; have dc1 := cell_on hb1 c1; have dc2 := cell_on hb1 c2; have dc3 := cell_on hb1 c3; have dc4 := cell_on hb1 c4; have dc5 := cell_on hb1 c5; have dg0 := frozen_on hb1 c4 g0; have dg1 := frozen_on hb1 c5 g1) | (go_at_call_of 23 (Value.agg #[.int .u32 (a : Int), .int .i64 (n : Int)]); refine (rwithin_any a n (ct a k) k _ ha hck).mono ?_; rintro e w2 ⟨rfl, hb2⟩; have hz2 := hb2.size; simp at hz2; have hl20 : w.heap.size < w2.heap.size := (by omega); have hl21 : w.heap.size + 1 < w2.heap.size := (by omega); have hl22 : w.heap.size + 1 + 1 < w2.heap.size := (by omega); have ec0 := cell_on hb2 (cell_alloc dc0); have ec1 := cell_on hb2 (cell_alloc dc1); have ec2 := cell_on hb2 (cell_alloc dc2); have ec3 := cell_on hb2 (cell_alloc dc3); have ec4 := cell_on hb2 (cell_alloc dc4); have ec5 := cell_on hb2 (cell_alloc dc5); have eg0 := frozen_on hb2 (cell_alloc dc4) (frozen_alloc dc4 dg0); have eg1 := frozen_on hb2 (cell_alloc dc5) (frozen_alloc dc5 dg1); have hp2 : w1.heap.size < w2.heap.size := (by omega); have pc0 : w2.cell? ⟨w1.heap.size, 0, none⟩ = some (.int .u32 (ct a k : Int)) := cell_on hb2 (by simp [go_sem]); have pc1 : w2.cell? ⟨w1.heap.size, 1, none⟩ = some (.int .i64 k) := cell_on hb2 (by simp [go_sem])) | (go_at_call_of 23 (Value.agg #[.int .u32 (b : Int), .int .i64 (m : Int)]); refine (rwithin_any b m (ct a k) k _ hb hck).mono ?_; rintro e w3 ⟨rfl, hb3⟩; have hz3 := hb3.size; have hl30 : w.heap.size < w3.heap.size := (by omega); have hl31 : w.heap.size + 1 < w3.heap.size := (by omega); have hl32 : w.heap.size + 1 + 1 < w3.heap.size := (by omega); have fc0 := cell_on hb3 ec0; have fc1 := cell_on hb3 ec1; have fc2 := cell_on hb3 ec2; have fc3 := cell_on hb3 ec3; have fc4 := cell_on hb3 ec4; have fc5 := cell_on hb3 ec5; have fg0 := frozen_on hb3 ec4 eg0; have fg1 := frozen_on hb3 ec5 eg1; have hp3 : w1.heap.size < w3.heap.size := (by omega); have qc0 := cell_on hb3 pc0; have qc1 := cell_on hb3 pc1))
          exact bodyPost_ret (v := .tuple #[.agg #[.int .u32 (ct a k : Int), .int .i64 (k : Int)], .int .i64 0]) (by simp [results, Try.results21, go_sem, *]) rfl ⟨by rw [HE.out], by (repeat (first | assumption | exact Below.refl _ _ | refine Below.drew ?_ | refine bel_drewN ?_ _ | refine Below.setCell ?_ (by first | omega | (simp; done) | (simp; omega)) _ | refine Below.alloc ?_ (by first | omega | (simp; done) | (simp; omega)) _ | refine bel_of ?_ (by assumption)))⟩
        · rw [decide_eq_false h2] at eB
          have HL : Hid (K ≤ k - 1) := by have := HK.out; show K ≤ k - 1; omega
          clear h1 h2
          go_wp2_with (first | (go_at_call 10; refine (hof k _ hk).mono ?_; rintro e w1 ⟨rfl, hb1⟩; have hz1 := hb1.size; have hl10 : w.heap.size < w1.heap.size := (by omega); have hl11 : w.heap.size + 1 < w1.heap.size := (by omega); have hl12 : w.heap.size + 1 + 1 < w1.heap.size := (by omega); have dc0 := cell_on hb1 c0; have dc1 := cell_on hb1 c1; have dc2 := cell_on hb1 c2; have dc3 := cell_on hb1 c3; have dc4 := cell_on hb1 c4; have dc5 := cell_on hb1 c5; have dg0 := frozen_on hb1 c4 g0; have dg1 := frozen_on hb1 c5 g1) | (go_at_call_of 23 (Value.agg #[.int .u32 (a : Int), .int .i64 (n : Int)]); refine (rwithin_any a n (ct a k) k _ ha hck).mono ?_; rintro e w2 ⟨rfl, hb2⟩; have hz2 := hb2.size; simp at hz2; have hl20 : w.heap.size < w2.heap.size := (by omega); have hl21 : w.heap.size + 1 < w2.heap.size := (by omega); have hl22 : w.heap.size + 1 + 1 < w2.heap.size := (by omega); have ec0 := cell_on hb2 (cell_alloc dc0); have ec1 := cell_on hb2 (cell_alloc dc1); have ec2 := cell_on hb2 (cell_alloc dc2); have ec3 := cell_on hb2 (cell_alloc dc3); have ec4 := cell_on hb2 (cell_alloc dc4); have ec5 := cell_on hb2 (cell_alloc dc5); have eg0 := frozen_on hb2 (cell_alloc dc4) (frozen_alloc dc4 dg0); have eg1 := frozen_on hb2 (cell_alloc dc5) (frozen_alloc dc5 dg1); have hp2 : w1.heap.size < w2.heap.size := (by omega); have pc0 : w2.cell? ⟨w1.heap.size, 0, none⟩ = some (.int .u32 (ct a k : Int)) := cell_on hb2 (by simp [go_sem]); have pc1 : w2.cell? ⟨w1.heap.size, 1, none⟩ = some (.int .i64 k) := cell_on hb2 (by simp [go_sem])) | (go_at_call_of 23 (Value.agg #[.int .u32 (b : Int), .int .i64 (m : Int)]); refine (rwithin_any b m (ct a k) k _ hb hck).mono ?_; rintro e w3 ⟨rfl, hb3⟩; have hz3 := hb3.size; have hl30 : w.heap.size < w3.heap.size := (by omega); have hl31 : w.heap.size + 1 < w3.heap.size := (by omega); have hl32 : w.heap.size + 1 + 1 < w3.heap.size := (by omega); have fc0 := cell_on hb3 ec0; have fc1 := cell_on hb3 ec1; have fc2 := cell_on hb3 ec2; have fc3 := cell_on hb3 ec3; have fc4 := cell_on hb3 ec4; have fc5 := cell_on hb3 ec5; have fg0 := frozen_on hb3 ec4 eg0; have fg1 := frozen_on hb3 ec5 eg1; have hp3 : w1.heap.size < w3.heap.size := (by omega); have qc0 := cell_on hb3 pc0; have qc1 := cell_on hb3 pc1))
          go_roundw
          case rel => exact ⟨k - 1, HL.out, by omega, by go_num, fc0, fc1, fc2, fc3, fc4, fc5, fg0, fg1, by omega, by (repeat (first | assumption | exact Below.refl _ _ | refine Below.drew ?_ | refine bel_drewN ?_ _ | refine Below.setCell ?_ (by first | omega | (simp; done) | (simp; omega)) _ | refine Below.alloc ?_ (by first | omega | (simp; done) | (simp; omega)) _ | refine bel_of ?_ (by assumption)))⟩
          case measure => simp [intOf]; omega
      · rw [decide_eq_false h1] at eA
        have HL : Hid (K ≤ k - 1) := by have := HK.out; show K ≤ k - 1; omega
        clear h1
        go_wp2_with (first | (go_at_call 10; refine (hof k _ hk).mono ?_; rintro e w1 ⟨rfl, hb1⟩; have hz1 := hb1.size; have hl10 : w.heap.size < w1.heap.size := (by omega); have hl11 : w.heap.size + 1 < w1.heap.size := (by omega); have hl12 : w.heap.size + 1 + 1 < w1.heap.size := (by omega); have dc0 := cell_on hb1 c0; have dc1 := cell_on hb1 c1; have dc2 := cell_on hb1 c2; have dc3 := cell_on hb1 c3; have dc4 := cell_on hb1 c4; have dc5 := cell_on hb1 c5; have dg0 := frozen_on hb1 c4 g0; have dg1 := frozen_on hb1 c5 g1) | (go_at_call_of 23 (Value.agg #[.int .u32 (a : Int), .int .i64 (n : Int)]); refine (rwithin_any a n (ct a k) k _ ha hck).mono ?_; rintro e w2 ⟨rfl, hb2⟩; have hz2 := hb2.size; simp at hz2; have hl20 : w.heap.size < w2.heap.size := (by omega); have hl21 : w.heap.size + 1 < w2.heap.size := (by omega); have hl22 : w.heap.size + 1 + 1 < w2.heap.size := (by omega); have ec0 := cell_on hb2 (cell_alloc dc0); have ec1 := cell_on hb2 (cell_alloc dc1); have ec2 := cell_on hb2 (cell_alloc dc2); have ec3 := cell_on hb2 (cell_alloc dc3); have ec4 := cell_on hb2 (cell_alloc dc4); have ec5 := cell_on hb2 (cell_alloc dc5); have eg0 := frozen_on hb2 (cell_alloc dc4) (frozen_alloc dc4 dg0); have eg1 := frozen_on hb2 (cell_alloc dc5) (frozen_alloc dc5 dg1); have hp2 : w1.heap.size < w2.heap.size := (by omega); have pc0 : w2.cell? ⟨w1.heap.size, 0, none⟩ = some (.int .u32 (ct a k : Int)) := cell_on hb2 (by simp [go_sem]); have pc1 : w2.cell? ⟨w1.heap.size, 1, none⟩ = some (.int .i64 k) := cell_on hb2 (by simp [go_sem])))
        go_roundw
        case rel => exact ⟨k - 1, HL.out, by omega, by go_num, ec0, ec1, ec2, ec3, ec4, ec5, eg0, eg1, by omega, by (repeat (first | assumption | exact Below.refl _ _ | refine Below.drew ?_ | refine bel_drewN ?_ _ | refine Below.setCell ?_ (by first | omega | (simp; done) | (simp; omega)) _ | refine Below.alloc ?_ (by first | omega | (simp; done) | (simp; omega)) _ | refine bel_of ?_ (by assumption)))⟩
        case measure => simp [intOf]; omega
theorem rcommon_any (a : Nat) (n : Int) (b : Nat) (m : Int) (w : World) (ha : a < 4294967296) (hb : b < 4294967296) :
    Calls Try.prog 21 #[.agg #[.int .u32 a, .int .i64 n], .agg #[.int .u32 b, .int .i64 m]] w fun e w' => e = .returned (.tuple #[.agg #[.int .u32 (cA a n b m : Int), .int .i64 (cN a n b m : Int)], .int .i64 (cE a n b m)]) ∧ Below w.heap.size w w' := by
  by_cases h : cE a n b m = 0
  · have ka : chk a n = 0 := by
      unfold cE at h
      by_cases k : chk a n = 0
      · exact k
      · rw [if_neg k] at h; exact h
    have kb : chk b m = 0 := by unfold cE at h; rw [if_pos ka] at h; exact h
    obtain ⟨n', rfl, hn, _⟩ := chk_ok ka
    obtain ⟨m', rfl, hm, _⟩ := chk_ok kb
    have e1 : cN a n' b m' = min (min n' m') (lz a b) := by simp [cN, h]
    have e2 : cA a n' b m' = ct a (min (min n' m') (lz a b)) := by rw [← e1]; simp [cA, h]
    rw [e2, e1, h]
    exact rcommon_yes a n' b m' w ha hb hn hm ka kb _ rfl
  · exact rcommon_no a n b m w ha hb h
end Go.Proofs.Ytegkkekbgndmpaa
