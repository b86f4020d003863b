/-
  A rule's point, and its place.
-/
import Derived.Test.YtlfdlifmcabfjaaCvSg
import Derived.Test.YtlfdlifmcabfjaaCvH
import Derived.Test.YtlfdlifmcabfjaaCvU
namespace Go.Proofs.Ytlfdlifmcabfjaa
open Go.RowKit Go.Sort
set_option linter.unusedVariables false
set_option linter.unusedSimpArgs false
set_option maxRecDepth 20000

/-- A rule's point, and its place on the walk. -/
def ptR (R : Ru) : Int × Int := (((R.s / 65536 : Nat) : Int), ((R.d / 65536 : Nat) : Int))
def keyR (R : Ru) : Int := plc 16 (ptR R)
theorem pt_sq {R : Ru} (h1 : R.s < 4294967296) (h2 : R.d < 4294967296) : InSq 16 (ptR R) := by
  unfold ptR InSq
  refine ⟨by simp only; omega, by show _ < (65536 : Int); omega, by simp only; omega, by show _ < (65536 : Int); omega⟩
theorem pointC (R : Ru) (h1 : R.s < 4294967296) (h2 : R.d < 4294967296) (w : World) : Calls Try.prog 22 #[.agg #[.int .i64 R.i, .int .u32 (R.s : Int), .int .i64 R.sl, .int .u32 (R.d : Int), .int .i64 R.dl, .int .u16 (R.p.1 : Int), .int .u16 (R.p.2 : Int), .int .u16 (R.q.1 : Int), .int .u16 (R.q.2 : Int), .int .u8 (R.m.1 : Int), .int .u8 (R.m.2 : Int), .int .i64 R.act]] w fun e w' => e = .returned (CX (ptR R).1 (ptR R).2) ∧ Below w.heap.size w w' := by
  go_enter Try.func22, Try.ntmps22
  go_wp2
  go_ret
  refine ⟨?_, by (repeat (first | assumption | exact Below.refl _ _ | refine Below.drew ?_ | refine bel_drewN ?_ _ | refine Below.setCell ?_ (by first | omega | (simp; done) | (simp; omega)) _ | refine Below.alloc ?_ (by first | omega | (simp; done) | (simp; omega)) _ | refine bel_of ?_ (by assumption)))⟩
  have e1 : (ptR R).1 = (R.s : Int) / 65536 := by unfold ptR; simp only; omega
  have e2 : (ptR R).2 = (R.d : Int) / 65536 := by unfold ptR; simp only; omega
  rw [e1, e2]; rfl
theorem ofC (R : Ru) (h1 : R.s < 4294967296) (h2 : R.d < 4294967296) (w : World) : Calls Try.prog 23 #[.agg #[.int .i64 R.i, .int .u32 (R.s : Int), .int .i64 R.sl, .int .u32 (R.d : Int), .int .i64 R.dl, .int .u16 (R.p.1 : Int), .int .u16 (R.p.2 : Int), .int .u16 (R.q.1 : Int), .int .u16 (R.q.2 : Int), .int .u8 (R.m.1 : Int), .int .u8 (R.m.2 : Int), .int .i64 R.act]] w fun e w' => e = .returned (.agg #[.int .i64 (ptR R).1, .int .i64 (ptR R).2]) ∧ Below w.heap.size w w' := by
  go_enter Try.func23, Try.ntmps23
  go_wp2
  exact bodyPost_ret (v := .agg #[.int .i64 (ptR R).1, .int .i64 (ptR R).2]) (by simp [results, Try.results23, go_sem, ptR]) rfl ⟨rfl, by (repeat (first | assumption | exact Below.refl _ _ | refine Below.drew ?_ | refine bel_drewN ?_ _ | refine Below.setCell ?_ (by first | omega | (simp; done) | (simp; omega)) _ | refine Below.alloc ?_ (by first | omega | (simp; done) | (simp; omega)) _ | refine bel_of ?_ (by assumption)))⟩
theorem placeP (R : Ru) (h1 : R.s < 4294967296) (h2 : R.d < 4294967296) (w : World) : Calls Try.prog 13 #[.int .i64 16, CX (ptR R).1 (ptR R).2] w fun e w' => e = .returned (.tuple #[.int .i64 (keyR R), .int .i64 0]) ∧ w' = w := by
  obtain ⟨s1, s2, s3, s4⟩ := pt_sq h1 h2
  exact place_ok 16 _ _ _ _ w (by omega) (by omega) (wh_wd (by omega) s1 s2 (wd_FL (by have : (2 : Int) ^ 16 = 65536 := rfl; omega))) (wh_wd (by omega) s3 s4 (wd_FL (by have : (2 : Int) ^ 16 = 65536 := rfl; omega)))
end Go.Proofs.Ytlfdlifmcabfjaa
