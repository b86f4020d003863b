/-
  One more than some bytes; Next of header.
-/
import Derived.Test.YtpgadbiohmofeabHdPa
import Derived.Test.YtpgadbiohmofeabHdPb
import Derived.Test.YtpgadbiohmofeabHdPw
import Derived.Test.YtpgadbiohmofeabHdPlB
import Derived.Test.YtpgadbiohmofeabHdK
namespace Go.Proofs.Ytpgadbiohmofeab
open Go.RowKit
set_option linter.unusedVariables false
set_option linter.unusedSimpArgs false

/-- m is one more than l. -/
def Plus (l m : List Nat) : Prop :=
  (∃ j, ∃ hj : j < l.length, (∀ k (hk : k < l.length), j + 1 ≤ k → l[k] = 255) ∧ l[j] < 255 ∧ m = l.take j ++ (l[j] + 1) :: List.replicate (12 - j) 0)
  ∨ ((∀ k (hk : k < l.length), 0 ≤ k → l[k] = 255) ∧ m = nxL l 0)
/-- The cells of a wire that may be written. -/
def Free13 (w : World) (B : Nat) : Prop := (∀ j, j < 13 → ∃ v, w.cell? ⟨B, j, none⟩ = some v) ∧ ∀ j, w.frozen? ⟨B, j, none⟩ = false
theorem Free13.set {w : World} {B : Nat} (h : Free13 w B) {g j : Nat} {v : Value} (hne : g ≠ B) : Free13 (w.setCell ⟨g, j, none⟩ v) B :=
  ⟨fun k hk => by rw [World.cell?_setCell_other _ _ _ _ (by first | (simp; done) | (simp; omega))]; exact h.1 k hk, fun k => by rw [World.frozen?_setCell]; exact h.2 k⟩
theorem free13_new {w : World} : Free13 (w.alloc (.cells #[.int .u8 0, .int .u8 0, .int .u8 0, .int .u8 0, .int .u8 0, .int .u8 0, .int .u8 0, .int .u8 0, .int .u8 0, .int .u8 0, .int .u8 0, .int .u8 0, .int .u8 0] 39)) w.heap.size :=
  ⟨fun j hj => by
    match j, hj with
    | 0, _ => exact ⟨.int .u8 0, by simp [go_sem]⟩
    | 1, _ => exact ⟨.int .u8 0, by simp [go_sem]⟩
    | 2, _ => exact ⟨.int .u8 0, by simp [go_sem]⟩
    | 3, _ => exact ⟨.int .u8 0, by simp [go_sem]⟩
    | 4, _ => exact ⟨.int .u8 0, by simp [go_sem]⟩
    | 5, _ => exact ⟨.int .u8 0, by simp [go_sem]⟩
    | 6, _ => exact ⟨.int .u8 0, by simp [go_sem]⟩
    | 7, _ => exact ⟨.int .u8 0, by simp [go_sem]⟩
    | 8, _ => exact ⟨.int .u8 0, by simp [go_sem]⟩
    | 9, _ => exact ⟨.int .u8 0, by simp [go_sem]⟩
    | 10, _ => exact ⟨.int .u8 0, by simp [go_sem]⟩
    | 11, _ => exact ⟨.int .u8 0, by simp [go_sem]⟩
    | 12, _ => exact ⟨.int .u8 0, by simp [go_sem]⟩, fun j => by simp [go_sem]⟩
set_option maxHeartbeats 2000000 in
theorem plusT (l : List Nat) (w : World) (hl : l.length = 13) (hbd : BdB l) :
    Calls Try.prog 20 #[.agg #[.int .u8 ((l.getD 0 0 : Nat) : Int), .int .u8 ((l.getD 1 0 : Nat) : Int), .int .u8 ((l.getD 2 0 : Nat) : Int), .int .u8 ((l.getD 3 0 : Nat) : Int), .int .u8 ((l.getD 4 0 : Nat) : Int), .int .u8 ((l.getD 5 0 : Nat) : Int), .int .u8 ((l.getD 6 0 : Nat) : Int), .int .u8 ((l.getD 7 0 : Nat) : Int), .int .u8 ((l.getD 8 0 : Nat) : Int), .int .u8 ((l.getD 9 0 : Nat) : Int), .int .u8 ((l.getD 10 0 : Nat) : Int), .int .u8 ((l.getD 11 0 : Nat) : Int), .int .u8 ((l.getD 12 0 : Nat) : Int)]] w fun e w' => ∃ m : List Nat, e = .returned (.agg #[.int .u8 ((m.getD 0 0 : Nat) : Int), .int .u8 ((m.getD 1 0 : Nat) : Int), .int .u8 ((m.getD 2 0 : Nat) : Int), .int .u8 ((m.getD 3 0 : Nat) : Int), .int .u8 ((m.getD 4 0 : Nat) : Int), .int .u8 ((m.getD 5 0 : Nat) : Int), .int .u8 ((m.getD 6 0 : Nat) : Int), .int .u8 ((m.getD 7 0 : Nat) : Int), .int .u8 ((m.getD 8 0 : Nat) : Int), .int .u8 ((m.getD 9 0 : Nat) : Int), .int .u8 ((m.getD 10 0 : Nat) : Int), .int .u8 ((m.getD 11 0 : Nat) : Int), .int .u8 ((m.getD 12 0 : Nat) : Int)]) ∧ Plus l m ∧ Below w.heap.size w w' := by
  obtain ⟨a0, a1, a2, a3, a4, a5, a6, a7, a8, a9, b0, b1, b2, hle⟩ := len13 hl
  have HR : Hid (RowB (w.alloc (.cells #[.int .u8 (a0 : Int), .int .u8 (a1 : Int), .int .u8 (a2 : Int), .int .u8 (a3 : Int), .int .u8 (a4 : Int), .int .u8 (a5 : Int), .int .u8 (a6 : Int), .int .u8 (a7 : Int), .int .u8 (a8 : Int), .int .u8 (a9 : Int), .int .u8 (b0 : Int), .int .u8 (b1 : Int), .int .u8 (b2 : Int)] 39)) w.heap.size (.slice (some ⟨w.heap.size, 0, none⟩) 13 13) l) := by
    have := row13 w l w.heap.size hl (Nat.le_refl _)
    show RowB _ _ _ _
    rw [hle] at this ⊢
    exact this
  have HV : Hid (Below w.heap.size w (w.alloc (.cells #[.int .u8 (a0 : Int), .int .u8 (a1 : Int), .int .u8 (a2 : Int), .int .u8 (a3 : Int), .int .u8 (a4 : Int), .int .u8 (a5 : Int), .int .u8 (a6 : Int), .int .u8 (a7 : Int), .int .u8 (a8 : Int), .int .u8 (a9 : Int), .int .u8 (b0 : Int), .int .u8 (b1 : Int), .int .u8 (b2 : Int)] 39))) := (Below.refl _ _).alloc (Nat.le_refl _) _
  have hv : (.agg #[.int .u8 ((l.getD 0 0 : Nat) : Int), .int .u8 ((l.getD 1 0 : Nat) : Int), .int .u8 ((l.getD 2 0 : Nat) : Int), .int .u8 ((l.getD 3 0 : Nat) : Int), .int .u8 ((l.getD 4 0 : Nat) : Int), .int .u8 ((l.getD 5 0 : Nat) : Int), .int .u8 ((l.getD 6 0 : Nat) : Int), .int .u8 ((l.getD 7 0 : Nat) : Int), .int .u8 ((l.getD 8 0 : Nat) : Int), .int .u8 ((l.getD 9 0 : Nat) : Int), .int .u8 ((l.getD 10 0 : Nat) : Int), .int .u8 ((l.getD 11 0 : Nat) : Int), .int .u8 ((l.getD 12 0 : Nat) : Int)] : Value) = .agg #[.int .u8 (a0 : Int), .int .u8 (a1 : Int), .int .u8 (a2 : Int), .int .u8 (a3 : Int), .int .u8 (a4 : Int), .int .u8 (a5 : Int), .int .u8 (a6 : Int), .int .u8 (a7 : Int), .int .u8 (a8 : Int), .int .u8 (a9 : Int), .int .u8 (b0 : Int), .int .u8 (b1 : Int), .int .u8 (b2 : Int)] := by rw [hle]; rfl
  rw [hv]
  have HL : Hid (l.length = 13) := hl
  clear hl hle hv
  go_enter Try.func20, Try.ntmps20
  go_wp2_with (fail)
  have hVs : (w.alloc (.cells #[.int .u8 (a0 : Int), .int .u8 (a1 : Int), .int .u8 (a2 : Int), .int .u8 (a3 : Int), .int .u8 (a4 : Int), .int .u8 (a5 : Int), .int .u8 (a6 : Int), .int .u8 (a7 : Int), .int .u8 (a8 : Int), .int .u8 (a9 : Int), .int .u8 (b0 : Int), .int .u8 (b1 : Int), .int .u8 (b2 : Int)] 39)).heap.size = w.heap.size + 1 := by simp
  generalize w.alloc (.cells #[.int .u8 (a0 : Int), .int .u8 (a1 : Int), .int .u8 (a2 : Int), .int .u8 (a3 : Int), .int .u8 (a4 : Int), .int .u8 (a5 : Int), .int .u8 (a6 : Int), .int .u8 (a7 : Int), .int .u8 (a8 : Int), .int .u8 (a9 : Int), .int .u8 (b0 : Int), .int .u8 (b1 : Int), .int .u8 (b2 : Int)] 39) = V at *
  have hgV : w.heap.size < V.heap.size := by omega
  have hgn : w.heap.size ≠ V.heap.size := by omega
  rw [← hVs]
  have HR0 : Hid (RowB (V.alloc (.cells #[.int .u8 0, .int .u8 0, .int .u8 0, .int .u8 0, .int .u8 0, .int .u8 0, .int .u8 0, .int .u8 0, .int .u8 0, .int .u8 0, .int .u8 0, .int .u8 0, .int .u8 0] 39)) w.heap.size (.slice (some ⟨w.heap.size, 0, none⟩) 13 13) (nxL l 13)) := by show RowB _ _ _ _; rw [nxL_all HL.out]; exact RowB.alloc HR.out _
  have HF0 : Hid (Free13 (V.alloc (.cells #[.int .u8 0, .int .u8 0, .int .u8 0, .int .u8 0, .int .u8 0, .int .u8 0, .int .u8 0, .int .u8 0, .int .u8 0, .int .u8 0, .int .u8 0, .int .u8 0, .int .u8 0] 39)) V.heap.size) := free13_new
  have HB0 : Hid (Below w.heap.size w (V.alloc (.cells #[.int .u8 0, .int .u8 0, .int .u8 0, .int .u8 0, .int .u8 0, .int .u8 0, .int .u8 0, .int .u8 0, .int .u8 0, .int .u8 0, .int .u8 0, .int .u8 0, .int .u8 0] 39))) := HV.out.alloc (Nat.le_of_lt hgV) _
  generalize V.alloc (.cells #[.int .u8 0, .int .u8 0, .int .u8 0, .int .u8 0, .int .u8 0, .int .u8 0, .int .u8 0, .int .u8 0, .int .u8 0, .int .u8 0, .int .u8 0, .int .u8 0, .int .u8 0] 39) = W0 at *
  have HVs : Hid (V.heap.size = w.heap.size + 1) := hVs
  clear hVs HR HV
  generalize hg : w.heap.size = G at *
  generalize hB : V.heap.size = B at *
  clear hB
  go_loopw [3] (fun iv wr => ∃ j : Nat, j ≤ 13 ∧ iv = .int .i64 ((j : Int) - 1) ∧ Hid (RowB wr G (.slice (some ⟨G, 0, none⟩) 13 13) (nxL l j)) ∧ Hid (∀ k (hk : k < l.length), j ≤ k → l[k] = 255) ∧ Hid (Free13 wr B) ∧ Hid (Below G w wr)) (fun iv _ => (intOf iv + 1).toNat)
  case atStart => exact ⟨13, Nat.le_refl _, rfl, HR0.out, fun k hk h13 => absurd hk (by rw [HL.out]; omega), HF0.out, HB0.out⟩
  case round =>
    obtain ⟨j, hj, rfl, HR1, HS, HF1, HB1⟩ := hrel
    clear HR0 HF0 HB0
    by_cases hj0 : j = 0
    · subst hj0
      have HP : Hid (Plus l (nxL l 0)) := .inr ⟨HS.out, rfl⟩
      have hml : (nxL l 0).length = 13 := nxL_length HL.out (by decide)
      generalize nxL l 0 = m at *
      have HF2 := HF1
      have HR2 := HR1
      clear HF1 HR1 HS
      have hfr := HF2.out
      obtain ⟨y0, e0⟩ := hfr.1 0 (by decide)
      obtain ⟨y1, e1⟩ := hfr.1 1 (by decide)
      obtain ⟨y2, e2⟩ := hfr.1 2 (by decide)
      obtain ⟨y3, e3⟩ := hfr.1 3 (by decide)
      obtain ⟨y4, e4⟩ := hfr.1 4 (by decide)
      obtain ⟨y5, e5⟩ := hfr.1 5 (by decide)
      obtain ⟨y6, e6⟩ := hfr.1 6 (by decide)
      obtain ⟨y7, e7⟩ := hfr.1 7 (by decide)
      obtain ⟨y8, e8⟩ := hfr.1 8 (by decide)
      obtain ⟨y9, e9⟩ := hfr.1 9 (by decide)
      obtain ⟨y10, e10⟩ := hfr.1 10 (by decide)
      obtain ⟨y11, e11⟩ := hfr.1 11 (by decide)
      obtain ⟨y12, e12⟩ := hfr.1 12 (by decide)
      have f2 := hfr.2
      have c0 := RowB.get HR2.out hml 0 (by decide)
      have c1 := RowB.get HR2.out hml 1 (by decide)
      have c2 := RowB.get HR2.out hml 2 (by decide)
      have c3 := RowB.get HR2.out hml 3 (by decide)
      have c4 := RowB.get HR2.out hml 4 (by decide)
      have c5 := RowB.get HR2.out hml 5 (by decide)
      have c6 := RowB.get HR2.out hml 6 (by decide)
      have c7 := RowB.get HR2.out hml 7 (by decide)
      have c8 := RowB.get HR2.out hml 8 (by decide)
      have c9 := RowB.get HR2.out hml 9 (by decide)
      have c10 := RowB.get HR2.out hml 10 (by decide)
      have c11 := RowB.get HR2.out hml 11 (by decide)
      have c12 := RowB.get HR2.out hml 12 (by decide)
      clear hfr HF2 HR2 hml
      go_wp2
      exact bodyPost_ret (v := .agg #[.int .u8 ((m.getD 0 0 : Nat) : Int), .int .u8 ((m.getD 1 0 : Nat) : Int), .int .u8 ((m.getD 2 0 : Nat) : Int), .int .u8 ((m.getD 3 0 : Nat) : Int), .int .u8 ((m.getD 4 0 : Nat) : Int), .int .u8 ((m.getD 5 0 : Nat) : Int), .int .u8 ((m.getD 6 0 : Nat) : Int), .int .u8 ((m.getD 7 0 : Nat) : Int), .int .u8 ((m.getD 8 0 : Nat) : Int), .int .u8 ((m.getD 9 0 : Nat) : Int), .int .u8 ((m.getD 10 0 : Nat) : Int), .int .u8 ((m.getD 11 0 : Nat) : Int), .int .u8 ((m.getD 12 0 : Nat) : Int)]) (by simp [results, Try.results20, go_sem, f2, e0, e1, e2, e3, e4, e5, e6, e7, e8, e9, e10, e11, e12]) rfl ⟨m, rfl, HP.out, by rw [hg]; (iterate 13 (refine Below.setCell ?_ (Nat.le_of_lt hgV) _)); exact HB1.out⟩
    · obtain ⟨k, rfl⟩ : ∃ k, j = k + 1 := ⟨j - 1, by omega⟩
      have hk : k < 13 := by omega
      have hkl : k < l.length := by rw [HL.out]; omega
      have hk1 : ((k + 1 : Nat) : Int) - 1 = (k : Int) := by omega
      have hk0 : (0 : Int) ≤ (k : Int) := by omega
      have hk13 : (k : Int) < 13 := by omega
      rw [hk1]
      have hl1 : (nxL l (k + 1)).length = 13 := nxL_length HL.out hj
      have x0 := RowB.get HR1.out hl1 k hk
      have hget : (nxL l (k + 1)).getD k 0 = l[k] := by rw [List.getD_eq_getElem?_getD, List.getElem?_eq_getElem (by omega), Option.getD_some, nxL_get HL.out hk]
      rw [hget] at x0
      have fz := HR1.out.frozen k
      have ht8 : l[k] < 256 := hbd _ (List.getElem_mem _)
      have HPut : Hid (∀ x : Nat, RowB (wr.setCell ⟨G, k, none⟩ (.int .u8 (x : Int))) G (.slice (some ⟨G, 0, none⟩) 13 13) ((nxL l (k + 1)).set k x)) := fun x => (HR1.out.put k x).1
      have HFs : Hid (∀ x : Value, Free13 (wr.setCell ⟨G, k, none⟩ x) B) := fun x => HF1.out.set hgn
      have HBs : Hid (∀ x : Value, Below G w (wr.setCell ⟨G, k, none⟩ x)) := fun x => HB1.out.setCell (Nat.le_refl _) _
      by_cases ht : l[k] = 255
      · have HR3 : Hid (RowB (wr.setCell ⟨G, k, none⟩ (.int .u8 0)) G (.slice (some ⟨G, 0, none⟩) 13 13) (nxL l k)) := by
          have := HPut.out 0
          rw [nxL_zero HL.out hk] at this
          exact this
        have HS3 : Hid (∀ i (hi : i < l.length), k ≤ i → l[i] = 255) := fun i hi hki => by
          by_cases e : i = k
          · subst e; exact ht
          · exact HS.out i hi (by omega)
        have x1 : wr.cell? ⟨G, k, none⟩ = some (.int .u8 255) := by rw [x0, ht]; rfl
        clear x0 ht HPut HS HR1 HF1 HB1 hget hl1 ht8 hkl
        go_wp2_with (fail)
        go_roundw
        case rel => exact ⟨k, by omega, by go_num, HR3.out, HS3.out, HFs.out _, HBs.out _⟩
        case measure => first | (simp [intOf]; done) | (simp [intOf]; omega)
      · obtain ⟨x, hx⟩ : ∃ x, x = l[k] := ⟨_, rfl⟩
        have hx5 : x < 255 := by omega
        have HP : Hid (Plus l ((nxL l (k + 1)).set k (x + 1))) := by
          refine .inl ⟨k, hkl, HS.out, by omega, ?_⟩
          rw [nxL_set HL.out hk, hx]
        have HR2 : Hid (RowB (wr.setCell ⟨G, k, none⟩ (.int .u8 ((x : Int) + 1))) G (.slice (some ⟨G, 0, none⟩) 13 13) ((nxL l (k + 1)).set k (x + 1))) := HPut.out (x + 1)
        have hml : ((nxL l (k + 1)).set k (x + 1)).length = 13 := by rw [List.length_set]; exact hl1
        have HF2 : Hid (Free13 (wr.setCell ⟨G, k, none⟩ (.int .u8 ((x : Int) + 1))) B) := HFs.out _
        have HB2 : Hid (Below G w (wr.setCell ⟨G, k, none⟩ (.int .u8 ((x : Int) + 1)))) := HBs.out _
        have x1 : wr.cell? ⟨G, k, none⟩ = some (.int .u8 (x : Int)) := by rw [x0, hx]
        have hx1 : (x : Int) + 1 < 256 := by omega
        have hxn : ¬ (x : Int) + 1 = 0 := by omega
        have hxb : ((x : Int) + 1 != 0) = true := by simp; omega
        have hxi : 0 ≤ (x : Int) := by omega
        generalize (nxL l (k + 1)).set k (x + 1) = m at *
        clear x0 ht HPut HS HR1 HF1 HB1 hget hl1 ht8 hkl HFs HBs hx
        go_upto_region 6 with (fail)
        generalize wr.setCell ⟨G, k, none⟩ (.int .u8 ((x : Int) + 1)) = W2 at *
        have hfr := HF2.out
        obtain ⟨y0, e0⟩ := hfr.1 0 (by decide)
        obtain ⟨y1, e1⟩ := hfr.1 1 (by decide)
        obtain ⟨y2, e2⟩ := hfr.1 2 (by decide)
        obtain ⟨y3, e3⟩ := hfr.1 3 (by decide)
        obtain ⟨y4, e4⟩ := hfr.1 4 (by decide)
        obtain ⟨y5, e5⟩ := hfr.1 5 (by decide)
        obtain ⟨y6, e6⟩ := hfr.1 6 (by decide)
        obtain ⟨y7, e7⟩ := hfr.1 7 (by decide)
        obtain ⟨y8, e8⟩ := hfr.1 8 (by decide)
        obtain ⟨y9, e9⟩ := hfr.1 9 (by decide)
        obtain ⟨y10, e10⟩ := hfr.1 10 (by decide)
        obtain ⟨y11, e11⟩ := hfr.1 11 (by decide)
        obtain ⟨y12, e12⟩ := hfr.1 12 (by decide)
        have f2 := hfr.2
        have c0 := RowB.get HR2.out hml 0 (by decide)
        have c1 := RowB.get HR2.out hml 1 (by decide)
        have c2 := RowB.get HR2.out hml 2 (by decide)
        have c3 := RowB.get HR2.out hml 3 (by decide)
        have c4 := RowB.get HR2.out hml 4 (by decide)
        have c5 := RowB.get HR2.out hml 5 (by decide)
        have c6 := RowB.get HR2.out hml 6 (by decide)
        have c7 := RowB.get HR2.out hml 7 (by decide)
        have c8 := RowB.get HR2.out hml 8 (by decide)
        have c9 := RowB.get HR2.out hml 9 (by decide)
        have c10 := RowB.get HR2.out hml 10 (by decide)
        have c11 := RowB.get HR2.out hml 11 (by decide)
        have c12 := RowB.get HR2.out hml 12 (by decide)
        clear hfr HF2 HR2 hml
        go_wp2
        exact bodyPost_ret (v := .agg #[.int .u8 ((m.getD 0 0 : Nat) : Int), .int .u8 ((m.getD 1 0 : Nat) : Int), .int .u8 ((m.getD 2 0 : Nat) : Int), .int .u8 ((m.getD 3 0 : Nat) : Int), .int .u8 ((m.getD 4 0 : Nat) : Int), .int .u8 ((m.getD 5 0 : Nat) : Int), .int .u8 ((m.getD 6 0 : Nat) : Int), .int .u8 ((m.getD 7 0 : Nat) : Int), .int .u8 ((m.getD 8 0 : Nat) : Int), .int .u8 ((m.getD 9 0 : Nat) : Int), .int .u8 ((m.getD 10 0 : Nat) : Int), .int .u8 ((m.getD 11 0 : Nat) : Int), .int .u8 ((m.getD 12 0 : Nat) : Int)]) (by simp [results, Try.results20, go_sem, f2, e0, e1, e2, e3, e4, e5, e6, e7, e8, e9, e10, e11, e12]) rfl ⟨m, rfl, HP.out, by rw [hg]; (iterate 13 (refine Below.setCell ?_ (Nat.le_of_lt hgV) _)); exact HB2.out⟩
end Go.Proofs.Ytpgadbiohmofeab
