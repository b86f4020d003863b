/-
  PkBF: TpX0 TpTe TqRk, one behind the other (tools/pack.py).
-/
import Derived.Test.YtfpmljgmfapoiaaPkBB
import Derived.Test.YtfpmljgmfapoiaaPkAD
import Derived.Test.YtfpmljgmfapoiaaPkAW
/-
  Fits of an engine without rules.
-/
namespace Go.Proofs.Ytfpmljgmfapoiaa
open Go.RowKit
set_option linter.unusedVariables false
set_option linter.unusedSimpArgs false

theorem blk4 {w : World} {B : Nat} {v0 v1 v2 v3 : Value} {t : TypeId} {fr : Nat × Nat} (h : w.heap[B]? = some (.cells #[v0, v1, v2, v3] t fr)) : w.cell? ⟨B, 0, none⟩ = some v0 ∧ w.cell? ⟨B, 1, none⟩ = some v1 ∧ w.cell? ⟨B, 2, none⟩ = some v2 ∧ w.cell? ⟨B, 3, none⟩ = some v3 := ⟨blk_cell h rfl, blk_cell h rfl, blk_cell h rfl, blk_cell h rfl⟩
theorem blk7 {w : World} {B : Nat} {v0 v1 v2 v3 v4 v5 v6 : Value} {t : TypeId} {fr : Nat × Nat} (h : w.heap[B]? = some (.cells #[v0, v1, v2, v3, v4, v5, v6] t fr)) : w.cell? ⟨B, 0, none⟩ = some v0 ∧ w.cell? ⟨B, 1, none⟩ = some v1 ∧ w.cell? ⟨B, 2, none⟩ = some v2 ∧ w.cell? ⟨B, 3, none⟩ = some v3 ∧ w.cell? ⟨B, 4, none⟩ = some v4 ∧ w.cell? ⟨B, 5, none⟩ = some v5 ∧ w.cell? ⟨B, 6, none⟩ = some v6 := ⟨blk_cell h rfl, blk_cell h rfl, blk_cell h rfl, blk_cell h rfl, blk_cell h rfl, blk_cell h rfl, blk_cell h rfl⟩
set_option maxHeartbeats 4000000 in
set_option maxRecDepth 20000 in
theorem fits0C (c : Cf) (h : Hd) (va : Int) (w : World) :
    Calls Try.prog 11 #[.agg #[.int .i64 c.m, .int .i64 c.a, .int .i64 c.p, .int .i64 c.g, .int .i64 c.t, .int .i64 c.b, .int .i64 c.d], .slice none 0 0, .agg #[.int .u32 h.s, .int .u32 h.d, .int .u16 h.p, .int .u16 h.q, .int .u8 h.r], .agg #[.bool false, .int .i64 0, .int .i64 va], .agg #[.int .i64 0, .int .i64 0, .int .i64 0, .int .i64 0, .int .i64 0], .agg #[.int .i64 0, .int .i64 0, .int .i64 0, .int .i64 0]] w fun e w' => e = .returned (.bool true) ∧ Below w.heap.size w w' := by
  obtain ⟨w0, hw0⟩ : ∃ w0, w0 = (((((w.alloc (.cells #[.int .i64 c.m, .int .i64 c.a, .int .i64 c.p, .int .i64 c.g, .int .i64 c.t, .int .i64 c.b, .int .i64 c.d] 24)).alloc (.cells #[.int .u32 h.s, .int .u32 h.d, .int .u16 h.p, .int .u16 h.q, .int .u8 h.r] 28)).alloc (.cells #[.bool false, .int .i64 0, .int .i64 va] 36)).alloc (.cells #[.int .i64 0, .int .i64 0, .int .i64 0, .int .i64 0, .int .i64 0] 38)).alloc (.cells #[.int .i64 0, .int .i64 0, .int .i64 0, .int .i64 0] 43)) := ⟨_, rfl⟩
  have HB0 : Hid (Below w.heap.size w w0) := by rw [hw0]; exact (Below.alloc (Below.alloc (Below.alloc (Below.alloc (Below.alloc (Below.refl _ _) (Nat.le_refl _) _) (by simp <;> omega) _) (by simp <;> omega) _) (by simp <;> omega) _) (by simp <;> omega) _)
  have Kh : w0.heap[w.heap.size + 1]? = some (.cells #[.int .u32 h.s, .int .u32 h.d, .int .u16 h.p, .int .u16 h.q, .int .u8 h.r] 28 (0, 0)) := by have := blk_alloc (blk_alloc (blk_alloc (blk_new (w.alloc (.cells #[.int .i64 c.m, .int .i64 c.a, .int .i64 c.p, .int .i64 c.g, .int .i64 c.t, .int .i64 c.b, .int .i64 c.d] 24)) (.cells #[.int .u32 h.s, .int .u32 h.d, .int .u16 h.p, .int .u16 h.q, .int .u8 h.r] 28)) (.cells #[.bool false, .int .i64 0, .int .i64 va] 36)) (.cells #[.int .i64 0, .int .i64 0, .int .i64 0, .int .i64 0, .int .i64 0] 38)) (.cells #[.int .i64 0, .int .i64 0, .int .i64 0, .int .i64 0] 43); rw [← hw0] at this; simpa using this
  have Kv : w0.heap[w.heap.size + 1 + 1]? = some (.cells #[.bool false, .int .i64 0, .int .i64 va] 36 (0, 0)) := by have := blk_alloc (blk_alloc (blk_new ((w.alloc (.cells #[.int .i64 c.m, .int .i64 c.a, .int .i64 c.p, .int .i64 c.g, .int .i64 c.t, .int .i64 c.b, .int .i64 c.d] 24)).alloc (.cells #[.int .u32 h.s, .int .u32 h.d, .int .u16 h.p, .int .u16 h.q, .int .u8 h.r] 28)) (.cells #[.bool false, .int .i64 0, .int .i64 va] 36)) (.cells #[.int .i64 0, .int .i64 0, .int .i64 0, .int .i64 0, .int .i64 0] 38)) (.cells #[.int .i64 0, .int .i64 0, .int .i64 0, .int .i64 0] 43); rw [← hw0] at this; simpa using this
  have Ks : w0.heap[w.heap.size + 1 + 1 + 1]? = some (.cells #[.int .i64 0, .int .i64 0, .int .i64 0, .int .i64 0, .int .i64 0] 38 (0, 0)) := by have := blk_alloc (blk_new (((w.alloc (.cells #[.int .i64 c.m, .int .i64 c.a, .int .i64 c.p, .int .i64 c.g, .int .i64 c.t, .int .i64 c.b, .int .i64 c.d] 24)).alloc (.cells #[.int .u32 h.s, .int .u32 h.d, .int .u16 h.p, .int .u16 h.q, .int .u8 h.r] 28)).alloc (.cells #[.bool false, .int .i64 0, .int .i64 va] 36)) (.cells #[.int .i64 0, .int .i64 0, .int .i64 0, .int .i64 0, .int .i64 0] 38)) (.cells #[.int .i64 0, .int .i64 0, .int .i64 0, .int .i64 0] 43); rw [← hw0] at this; simpa using this
  have Kt : w0.heap[w.heap.size + 1 + 1 + 1 + 1]? = some (.cells #[.int .i64 0, .int .i64 0, .int .i64 0, .int .i64 0] 43 (0, 0)) := by have := blk_new ((((w.alloc (.cells #[.int .i64 c.m, .int .i64 c.a, .int .i64 c.p, .int .i64 c.g, .int .i64 c.t, .int .i64 c.b, .int .i64 c.d] 24)).alloc (.cells #[.int .u32 h.s, .int .u32 h.d, .int .u16 h.p, .int .u16 h.q, .int .u8 h.r] 28)).alloc (.cells #[.bool false, .int .i64 0, .int .i64 va] 36)).alloc (.cells #[.int .i64 0, .int .i64 0, .int .i64 0, .int .i64 0, .int .i64 0] 38)) (.cells #[.int .i64 0, .int .i64 0, .int .i64 0, .int .i64 0] 43); rw [← hw0] at this; simpa using this
  have hw0s : (((((w.alloc (.cells #[.int .i64 c.m, .int .i64 c.a, .int .i64 c.p, .int .i64 c.g, .int .i64 c.t, .int .i64 c.b, .int .i64 c.d] 24)).alloc (.cells #[.int .u32 h.s, .int .u32 h.d, .int .u16 h.p, .int .u16 h.q, .int .u8 h.r] 28)).alloc (.cells #[.bool false, .int .i64 0, .int .i64 va] 36)).alloc (.cells #[.int .i64 0, .int .i64 0, .int .i64 0, .int .i64 0, .int .i64 0] 38)).alloc (.cells #[.int .i64 0, .int .i64 0, .int .i64 0, .int .i64 0] 43)) = w0 := hw0.symm
  have Hw0s : Hid _ := hw0s
  clear hw0 hw0s
  have Kh : Hid _ := Kh
  have Kv : Hid _ := Kv
  have Ks : Hid _ := Ks
  have Kt : Hid _ := Kt
  go_enter Try.func11, Try.ntmps11
  go_upto_region 1 with (fail)
  have hw0s := Hw0s.out
  try simp only [hw0s, World.size_alloc]
  clear hw0s Hw0s
  obtain ⟨Bt, hBt⟩ : ∃ B, B = w.heap.size + 1 + 1 + 1 + 1 := ⟨_, rfl⟩
  rw [← hBt] at Kt ⊢
  obtain ⟨Bs, hBs⟩ : ∃ B, B = w.heap.size + 1 + 1 + 1 := ⟨_, rfl⟩
  rw [← hBs] at Ks ⊢
  obtain ⟨Bv, hBv⟩ : ∃ B, B = w.heap.size + 1 + 1 := ⟨_, rfl⟩
  rw [← hBv] at Kv ⊢
  obtain ⟨Bh, hBh⟩ : ∃ B, B = w.heap.size + 1 := ⟨_, rfl⟩
  rw [← hBh] at Kh ⊢
  clear hBt hBs hBv hBh
  obtain ⟨z0, z1, z2, z3, z4⟩ := blk5 Kh.out
  obtain ⟨v0, v1, v2⟩ := blk3 Kv.out
  obtain ⟨s0, s1, s2, s3, s4⟩ := blk5 Ks.out
  obtain ⟨t0, t1, t2, t3⟩ := blk4 Kt.out
  go_wp2_with (fail)
  go_ret
  exact ⟨rfl, HB0.out⟩
end Go.Proofs.Ytfpmljgmfapoiaa
/-
  Values compared with themselves.
-/
namespace Go.Proofs.Ytfpmljgmfapoiaa
open Go.RowKit
set_option linter.unusedVariables false
set_option linter.unusedSimpArgs false
end Go.Proofs.Ytfpmljgmfapoiaa
/-
  The document's Check of configurations. Written by tools/mkTbRk.py.
-/
namespace Go.Proofs.Ytfpmljgmfapoiaa
open Go.RowKit
set_option linter.unusedVariables false
set_option linter.unusedSimpArgs false

theorem amg_no1 {n a b : Int} (h : ¬ a ≤ n) : amg n a b = false := by unfold amg; rw [decide_eq_false h]; rfl
theorem amg_no2 {n a b : Int} (h : ¬ n ≤ b) : amg n a b = false := by unfold amg; rw [decide_eq_false h]; simp
set_option maxRecDepth 20000 in
set_option maxHeartbeats 8000000 in
theorem rcheckCC (c : Cf) (w : World) : Calls Try.prog 7 #[.agg #[.int .i64 c.m, .int .i64 c.a, .int .i64 c.p, .int .i64 c.g, .int .i64 c.t, .int .i64 c.b, .int .i64 c.d]] w fun e w' => e = .returned (.int .i64 (errC c)) ∧ Below w.heap.size w w' := by
  obtain ⟨E, hE⟩ : ∃ E, E = errC c := ⟨_, rfl⟩
  rw [← hE]
  have HE : Hid (E = if ((amg c.m 1 64 && amg c.a 1 4) && (amg c.p 0 1048576 && amg c.g 0 1048576 && amg c.t 0 1048576) && (amg c.b 1 16 && amg c.d 0 10)) = true then 0 else 110) := hE
  clear hE
  have HCc := blk_new w (.cells #[.int .i64 c.m, .int .i64 c.a, .int .i64 c.p, .int .i64 c.g, .int .i64 c.t, .int .i64 c.b, .int .i64 c.d] 24)
  have HB : Hid (Below w.heap.size w (w.alloc (.cells #[.int .i64 c.m, .int .i64 c.a, .int .i64 c.p, .int .i64 c.g, .int .i64 c.t, .int .i64 c.b, .int .i64 c.d] 24))) := (Below.refl _ _).alloc (Nat.le_refl _) _
  go_enter Try.func7, Try.ntmps7
  go_upto_region 1 with (fail)
  generalize w.alloc (.cells #[.int .i64 c.m, .int .i64 c.a, .int .i64 c.p, .int .i64 c.g, .int .i64 c.t, .int .i64 c.b, .int .i64 c.d] 24) = W at *
  have c0 : W.cell? ⟨w.heap.size, 0, none⟩ = some (.int .i64 c.m) := blk_cell HCc rfl
  have c1 : W.cell? ⟨w.heap.size, 1, none⟩ = some (.int .i64 c.a) := blk_cell HCc rfl
  have c2 : W.cell? ⟨w.heap.size, 2, none⟩ = some (.int .i64 c.p) := blk_cell HCc rfl
  have c3 : W.cell? ⟨w.heap.size, 3, none⟩ = some (.int .i64 c.g) := blk_cell HCc rfl
  have c4 : W.cell? ⟨w.heap.size, 4, none⟩ = some (.int .i64 c.t) := blk_cell HCc rfl
  have c5 : W.cell? ⟨w.heap.size, 5, none⟩ = some (.int .i64 c.b) := blk_cell HCc rfl
  have c6 : W.cell? ⟨w.heap.size, 6, none⟩ = some (.int .i64 c.d) := blk_cell HCc rfl
  go_cut [3] (fun s wx => s = .bool (amg c.m 1 64 && amg c.a 1 4) ∧ Hid (wx = W))
  case first =>
    by_cases h4 : 1 ≤ c.m
    · skip
      by_cases h3 : c.m ≤ 64
      · skip
        by_cases h2 : 1 ≤ c.a
        · skip
          by_cases h1 : c.a ≤ 4
          · go_wp2_with (fail)
            go_meet
            case rel => exact ⟨by rw [amg_iff.2 ⟨h4, h3⟩, amg_iff.2 ⟨h2, h1⟩]; simp, rfl⟩
          · go_wp2_with (fail)
            go_meet
            case rel => exact ⟨by rw [amg_no2 (n := c.a) (a := 1) (b := 4) (by omega)]; simp, rfl⟩
        · go_wp2_with (fail)
          go_meet
          case rel => exact ⟨by rw [amg_no1 (n := c.a) (a := 1) (b := 4) (by omega)]; simp, rfl⟩
      · go_wp2_with (fail)
        go_meet
        case rel => exact ⟨by rw [amg_no2 (n := c.m) (a := 1) (b := 64) (by omega)]; simp, rfl⟩
    · go_wp2_with (fail)
      go_meet
      case rel => exact ⟨by rw [amg_no1 (n := c.m) (a := 1) (b := 64) (by omega)]; simp, rfl⟩
  case rest =>
    obtain ⟨rfl, hx⟩ := hcut
    obtain rfl := hx.out.symm
    clear hx
    go_upto_region 2 with (fail)
    generalize (amg c.m 1 64 && amg c.a 1 4) = Q1 at *
    go_cut [4] (fun s wx => s = .bool (amg c.p 0 1048576 && amg c.g 0 1048576 && amg c.t 0 1048576) ∧ Hid (wx = W))
    case first =>
      by_cases h6 : 0 ≤ c.p
      · skip
        by_cases h5 : c.p ≤ 1048576
        · skip
          by_cases h4 : 0 ≤ c.g
          · skip
            by_cases h3 : c.g ≤ 1048576
            · skip
              by_cases h2 : 0 ≤ c.t
              · skip
                by_cases h1 : c.t ≤ 1048576
                · go_wp2_with (fail)
                  go_meet
                  case rel => exact ⟨by rw [amg_iff.2 ⟨h6, h5⟩, amg_iff.2 ⟨h4, h3⟩, amg_iff.2 ⟨h2, h1⟩]; simp, rfl⟩
                · go_wp2_with (fail)
                  go_meet
                  case rel => exact ⟨by rw [amg_no2 (n := c.t) (a := 0) (b := 1048576) (by omega)]; simp, rfl⟩
              · go_wp2_with (fail)
                go_meet
                case rel => exact ⟨by rw [amg_no1 (n := c.t) (a := 0) (b := 1048576) (by omega)]; simp, rfl⟩
            · go_wp2_with (fail)
              go_meet
              case rel => exact ⟨by rw [amg_no2 (n := c.g) (a := 0) (b := 1048576) (by omega)]; simp, rfl⟩
          · go_wp2_with (fail)
            go_meet
            case rel => exact ⟨by rw [amg_no1 (n := c.g) (a := 0) (b := 1048576) (by omega)]; simp, rfl⟩
        · go_wp2_with (fail)
          go_meet
          case rel => exact ⟨by rw [amg_no2 (n := c.p) (a := 0) (b := 1048576) (by omega)]; simp, rfl⟩
      · go_wp2_with (fail)
        go_meet
        case rel => exact ⟨by rw [amg_no1 (n := c.p) (a := 0) (b := 1048576) (by omega)]; simp, rfl⟩
    case rest =>
      obtain ⟨rfl, hx⟩ := hcut
      obtain rfl := hx.out.symm
      clear hx
      generalize (amg c.p 0 1048576 && amg c.g 0 1048576 && amg c.t 0 1048576) = Q2 at *
      cases Q1
      · go_wp2_with (fail)
        go_ret
        exact ⟨ret_int (by rw [HE.out]; simp), HB.out⟩
      · cases Q2
        · go_wp2_with (fail)
          go_ret
          exact ⟨ret_int (by rw [HE.out]; simp), HB.out⟩
        · by_cases h4 : c.b < 1
          · have h4' := amg_no1 (n := c.b) (a := 1) (b := 16) (by omega)
            rw [h4'] at HE
            go_wp2_with (fail)
            go_ret
            exact ⟨ret_int (by rw [HE.out]; simp), HB.out⟩
          · by_cases h3 : 16 < c.b
            · have h3' := amg_no2 (n := c.b) (a := 1) (b := 16) (by omega)
              rw [h3'] at HE
              go_wp2_with (fail)
              go_ret
              exact ⟨ret_int (by rw [HE.out]; simp), HB.out⟩
            · have e4 := amg_iff.2 (show 1 ≤ c.b ∧ c.b ≤ 16 by omega)
              rw [e4] at HE
              by_cases h2 : c.d < 0
              · have h2' := amg_no1 (n := c.d) (a := 0) (b := 10) (by omega)
                rw [h2'] at HE
                go_wp2_with (fail)
                go_ret
                exact ⟨ret_int (by rw [HE.out]; simp), HB.out⟩
              · by_cases h1 : 10 < c.d
                · have h1' := amg_no2 (n := c.d) (a := 0) (b := 10) (by omega)
                  rw [h1'] at HE
                  go_wp2_with (fail)
                  go_ret
                  exact ⟨ret_int (by rw [HE.out]; simp), HB.out⟩
                · have e1 := amg_iff.2 (show 0 ≤ c.d ∧ c.d ≤ 10 by omega)
                  rw [e1] at HE
                  go_wp2_with (fail)
                  go_ret
                  exact ⟨ret_int (by rw [HE.out]; simp), HB.out⟩
end Go.Proofs.Ytfpmljgmfapoiaa
