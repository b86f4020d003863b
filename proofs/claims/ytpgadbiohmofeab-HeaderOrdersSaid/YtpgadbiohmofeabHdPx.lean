/-
  Next of header: what it hands back.
-/
import Derived.Test.YtpgadbiohmofeabHdPn
import Derived.Test.YtpgadbiohmofeabHdPq
import Derived.Test.YtpgadbiohmofeabHdRd
import Derived.Deep.RegionHeld3
import Derived.Deep.MidRow
namespace Go.Proofs.Ytpgadbiohmofeab
open Go.RowKit
set_option linter.unusedVariables false
set_option linter.unusedSimpArgs false

theorem plus_next {h : Hd} (o : OkH h) {m : List Nat} (hP : Plus (bytesH h) m) : m.length = 13 ∧ BdB m ∧ hdB m = nxt h ∧ decide (m = List.replicate 13 0) = !(hasN h) := by
  rcases hP with ⟨j, hj, hs, ht, rfl⟩ | ⟨hs, rfl⟩
  · have hj' : j < 13 := hj
    obtain ⟨h1, h2⟩ := nx_hd o hj' hs ht
    refine ⟨by simp [bytesH_length]; omega, nx_bd (by omega), h2, ?_⟩
    rw [h1]
    refine decide_eq_false fun he => ?_
    have hm : (bytesH h)[j] + 1 ∈ (List.replicate 13 0 : List Nat) := by rw [← he]; exact List.mem_append_right _ List.mem_cons_self
    have := List.eq_of_mem_replicate hm
    omega
  · have hz : nxL (bytesH h) 0 = List.replicate 13 0 := by simp [nxL]
    rw [hz, nx_end o hs, (nxt_no o (nx_end o hs)).1]
    exact ⟨rfl, by intro b hb; rw [List.eq_of_mem_replicate hb]; decide, by decide, rfl⟩
set_option maxHeartbeats 2000000 in
theorem nxtC : NxtC := by
  intro h w o
  have kl := fun W => layT h W o
  have kp := fun W => plusT (bytesH h) W rfl (bytesH_bd h)
  have HN : Hid (∀ m, Plus (bytesH h) m → m.length = 13 ∧ BdB m ∧ hdB m = nxt h ∧ decide (m = List.replicate 13 0) = !(hasN h)) := fun m hP => plus_next o hP
  generalize nxt h = H at *
  generalize hasN h = E at *
  have hL : (bytesH h).length = 13 := rfl
  generalize bytesH h = L at *
  obtain ⟨a0, a1, a2, a3, a4, a5, a6, a7, a8, a9, b0, b1, b2, hLe⟩ := len13 hL
  have hv1 : (.agg #[.int .u8 ((L.getD 0 0 : Nat) : Int), .int .u8 ((L.getD 1 0 : Nat) : Int), .int .u8 ((L.getD 2 0 : Nat) : Int), .int .u8 ((L.getD 3 0 : Nat) : Int), .int .u8 ((L.getD 4 0 : Nat) : Int), .int .u8 ((L.getD 5 0 : Nat) : Int), .int .u8 ((L.getD 6 0 : Nat) : Int), .int .u8 ((L.getD 7 0 : Nat) : Int), .int .u8 ((L.getD 8 0 : Nat) : Int), .int .u8 ((L.getD 9 0 : Nat) : Int), .int .u8 ((L.getD 10 0 : Nat) : Int), .int .u8 ((L.getD 11 0 : Nat) : Int), .int .u8 ((L.getD 12 0 : Nat) : Int)] : Value) = .agg #[.int .u8 (a0 : Int), .int .u8 (a1 : Int), .int .u8 (a2 : Int), .int .u8 (a3 : Int), .int .u8 (a4 : Int), .int .u8 (a5 : Int), .int .u8 (a6 : Int), .int .u8 (a7 : Int), .int .u8 (a8 : Int), .int .u8 (a9 : Int), .int .u8 (b0 : Int), .int .u8 (b1 : Int), .int .u8 (b2 : Int)] := by rw [hLe]; rfl
  simp only [hv1] at kl kp
  clear hv1 hLe hL
  go_enter Try.func11, Try.ntmps11
  go_wp2_with (fail)
  refine (kl _).mono ?_
  rintro e w1 ⟨rfl, q1⟩
  have hz1 := q1.size
  simp at hz1
  have HF1 : Hid (FreeH w1 (w.heap.size + 1)) := by
    have := (freeH_new (w := w.alloc (.cells #[.int .u32 (h.s : Int), .int .u32 (h.d : Int), .int .u16 (h.p : Int), .int .u16 (h.q : Int), .int .u8 (h.r : Int)] 25)) (a0 := .int .u32 0) (a1 := .int .u32 0) (a2 := .int .u16 0) (a3 := .int .u16 0) (a4 := .int .u8 0) (t := 25)).on q1 (by simp)
    show FreeH _ _
    simpa using this
  have HB1 : Hid (Below w.heap.size w w1) := (((Below.refl _ _).alloc (Nat.le_refl _) _).alloc (by simp) _).trans (q1.mono (by simp; omega))
  clear q1
  go_wp2_with (fail)
  refine (kp _).mono ?_
  rintro e w2 ⟨m, rfl, hP, q2⟩
  have hz2 := q2.size
  obtain ⟨hml, hmb, hmh, hmz⟩ := HN.out m hP
  have kw := fun W => wheadT m W hml hmb
  rw [hmh] at kw
  have ke := fun W => run_eq13 m (List.replicate 13 0) hml rfl W
  rw [hmz] at ke
  have HF2 : Hid (FreeH w2 (w.heap.size + 1)) := HF1.out.on q2 (by omega)
  have HB2 : Hid (Below w.heap.size w w2) := HB1.out.trans (q2.mono (by omega))
  obtain ⟨m0, m1, m2, m3, m4, m5, m6, m7, m8, m9, m10, m11, m12, rfl⟩ := len13 hml
  simp only [List.getD_cons_zero, List.getD_cons_succ] at kw ke ⊢
  have hrz : (List.replicate 13 0 : List Nat) = [0, 0, 0, 0, 0, 0, 0, 0, 0, 0, 0, 0, 0] := rfl
  simp only [hrz, List.getD_cons_zero, List.getD_cons_succ] at ke
  have ke' : ∀ W : World, (Op.equalIn 10000 39 (.agg #[.int .u8 (m0 : Int), .int .u8 (m1 : Int), .int .u8 (m2 : Int), .int .u8 (m3 : Int), .int .u8 (m4 : Int), .int .u8 (m5 : Int), .int .u8 (m6 : Int), .int .u8 (m7 : Int), .int .u8 (m8 : Int), .int .u8 (m9 : Int), .int .u8 (m10 : Int), .int .u8 (m11 : Int), .int .u8 (m12 : Int)]) (.agg #[.int .u8 0, .int .u8 0, .int .u8 0, .int .u8 0, .int .u8 0, .int .u8 0, .int .u8 0, .int .u8 0, .int .u8 0, .int .u8 0, .int .u8 0, .int .u8 0, .int .u8 0])).run Try.prog W = .ok (!E) W := fun W => ke W
  clear ke hrz hml hmb hmh hmz hP q2 HN HB1 HF1 kl kp
  have HR : Hid ((w2.alloc (.cells #[.int .u8 (m0 : Int), .int .u8 (m1 : Int), .int .u8 (m2 : Int), .int .u8 (m3 : Int), .int .u8 (m4 : Int), .int .u8 (m5 : Int), .int .u8 (m6 : Int), .int .u8 (m7 : Int), .int .u8 (m8 : Int), .int .u8 (m9 : Int), .int .u8 (m10 : Int), .int .u8 (m11 : Int), .int .u8 (m12 : Int)] 39)).rangeAt w2.heap.size 0 [.int .u8 (m0 : Int), .int .u8 (m1 : Int), .int .u8 (m2 : Int), .int .u8 (m3 : Int), .int .u8 (m4 : Int), .int .u8 (m5 : Int), .int .u8 (m6 : Int), .int .u8 (m7 : Int), .int .u8 (m8 : Int), .int .u8 (m9 : Int), .int .u8 (m10 : Int), .int .u8 (m11 : Int), .int .u8 (m12 : Int)]) := by
    intro j v hv
    have hj : j < 13 := (List.getElem?_eq_some_iff.1 hv).1
    match j, hj with
    | 0, _ => simp at hv; rw [← hv]; simp [go_sem]
    | 1, _ => simp at hv; rw [← hv]; simp [go_sem]
    | 2, _ => simp at hv; rw [← hv]; simp [go_sem]
    | 3, _ => simp at hv; rw [← hv]; simp [go_sem]
    | 4, _ => simp at hv; rw [← hv]; simp [go_sem]
    | 5, _ => simp at hv; rw [← hv]; simp [go_sem]
    | 6, _ => simp at hv; rw [← hv]; simp [go_sem]
    | 7, _ => simp at hv; rw [← hv]; simp [go_sem]
    | 8, _ => simp at hv; rw [← hv]; simp [go_sem]
    | 9, _ => simp at hv; rw [← hv]; simp [go_sem]
    | 10, _ => simp at hv; rw [← hv]; simp [go_sem]
    | 11, _ => simp at hv; rw [← hv]; simp [go_sem]
    | 12, _ => simp at hv; rw [← hv]; simp [go_sem]
  have HF3 : Hid (FreeH (w2.alloc (.cells #[.int .u8 (m0 : Int), .int .u8 (m1 : Int), .int .u8 (m2 : Int), .int .u8 (m3 : Int), .int .u8 (m4 : Int), .int .u8 (m5 : Int), .int .u8 (m6 : Int), .int .u8 (m7 : Int), .int .u8 (m8 : Int), .int .u8 (m9 : Int), .int .u8 (m10 : Int), .int .u8 (m11 : Int), .int .u8 (m12 : Int)] 39)) (w.heap.size + 1)) := HF2.out.on ((Below.refl _ _).alloc (Nat.le_refl _) _) (by omega)
  have HB3 : Hid (Below w.heap.size w (w2.alloc (.cells #[.int .u8 (m0 : Int), .int .u8 (m1 : Int), .int .u8 (m2 : Int), .int .u8 (m3 : Int), .int .u8 (m4 : Int), .int .u8 (m5 : Int), .int .u8 (m6 : Int), .int .u8 (m7 : Int), .int .u8 (m8 : Int), .int .u8 (m9 : Int), .int .u8 (m10 : Int), .int .u8 (m11 : Int), .int .u8 (m12 : Int)] 39))) := HB2.out.alloc (by omega) _
  have hz3 : w2.heap.size < (w2.alloc (.cells #[.int .u8 (m0 : Int), .int .u8 (m1 : Int), .int .u8 (m2 : Int), .int .u8 (m3 : Int), .int .u8 (m4 : Int), .int .u8 (m5 : Int), .int .u8 (m6 : Int), .int .u8 (m7 : Int), .int .u8 (m8 : Int), .int .u8 (m9 : Int), .int .u8 (m10 : Int), .int .u8 (m11 : Int), .int .u8 (m12 : Int)] 39)).heap.size := by simp
  go_upto_region 2 with (fail)
  generalize w2.alloc (.cells #[.int .u8 (m0 : Int), .int .u8 (m1 : Int), .int .u8 (m2 : Int), .int .u8 (m3 : Int), .int .u8 (m4 : Int), .int .u8 (m5 : Int), .int .u8 (m6 : Int), .int .u8 (m7 : Int), .int .u8 (m8 : Int), .int .u8 (m9 : Int), .int .u8 (m10 : Int), .int .u8 (m11 : Int), .int .u8 (m12 : Int)] 39) = V at *
  have c0 : V.cell? ⟨w2.heap.size, 0, none⟩ = some (.int .u8 (m0 : Int)) := by have := HR.out 0 _ rfl; rw [Nat.zero_add] at this; exact this
  have c1 : V.cell? ⟨w2.heap.size, 1, none⟩ = some (.int .u8 (m1 : Int)) := by have := HR.out 1 _ rfl; rw [Nat.zero_add] at this; exact this
  have c2 : V.cell? ⟨w2.heap.size, 2, none⟩ = some (.int .u8 (m2 : Int)) := by have := HR.out 2 _ rfl; rw [Nat.zero_add] at this; exact this
  have c3 : V.cell? ⟨w2.heap.size, 3, none⟩ = some (.int .u8 (m3 : Int)) := by have := HR.out 3 _ rfl; rw [Nat.zero_add] at this; exact this
  have c4 : V.cell? ⟨w2.heap.size, 4, none⟩ = some (.int .u8 (m4 : Int)) := by have := HR.out 4 _ rfl; rw [Nat.zero_add] at this; exact this
  have c5 : V.cell? ⟨w2.heap.size, 5, none⟩ = some (.int .u8 (m5 : Int)) := by have := HR.out 5 _ rfl; rw [Nat.zero_add] at this; exact this
  have c6 : V.cell? ⟨w2.heap.size, 6, none⟩ = some (.int .u8 (m6 : Int)) := by have := HR.out 6 _ rfl; rw [Nat.zero_add] at this; exact this
  have c7 : V.cell? ⟨w2.heap.size, 7, none⟩ = some (.int .u8 (m7 : Int)) := by have := HR.out 7 _ rfl; rw [Nat.zero_add] at this; exact this
  have c8 : V.cell? ⟨w2.heap.size, 8, none⟩ = some (.int .u8 (m8 : Int)) := by have := HR.out 8 _ rfl; rw [Nat.zero_add] at this; exact this
  have c9 : V.cell? ⟨w2.heap.size, 9, none⟩ = some (.int .u8 (m9 : Int)) := by have := HR.out 9 _ rfl; rw [Nat.zero_add] at this; exact this
  have c10 : V.cell? ⟨w2.heap.size, 10, none⟩ = some (.int .u8 (m10 : Int)) := by have := HR.out 10 _ rfl; rw [Nat.zero_add] at this; exact this
  have c11 : V.cell? ⟨w2.heap.size, 11, none⟩ = some (.int .u8 (m11 : Int)) := by have := HR.out 11 _ rfl; rw [Nat.zero_add] at this; exact this
  have c12 : V.cell? ⟨w2.heap.size, 12, none⟩ = some (.int .u8 (m12 : Int)) := by have := HR.out 12 _ rfl; rw [Nat.zero_add] at this; exact this
  obtain ⟨y0, e0⟩ := HF3.out.1 0 (by omega)
  obtain ⟨y1, e1⟩ := HF3.out.1 1 (by omega)
  obtain ⟨y2, e2⟩ := HF3.out.1 2 (by omega)
  obtain ⟨y3, e3⟩ := HF3.out.1 3 (by omega)
  obtain ⟨y4, e4⟩ := HF3.out.1 4 (by omega)
  have f2 := HF3.out.2
  have hlt : w.heap.size + 1 < V.heap.size := by omega
  have hn1 : ¬ w2.heap.size = w.heap.size + 1 := by omega
  have hn2 : ¬ w.heap.size + 1 = w2.heap.size := by omega
  clear HR HF3 HF2 HB2
  go_region_with (go_at_call 19; refine (kw _).mono ?_; rintro e w3 ⟨rfl, q1⟩; obtain ⟨q3, q4⟩ := bcell q1; have q5 := q1.size; have C0 : w3.cell? ⟨w2.heap.size, 0, none⟩ = some (.int .u8 (m0 : Int)) := (q3 w2.heap.size 0 hz3).trans c0; have C1 : w3.cell? ⟨w2.heap.size, 1, none⟩ = some (.int .u8 (m1 : Int)) := (q3 w2.heap.size 1 hz3).trans c1; have C2 : w3.cell? ⟨w2.heap.size, 2, none⟩ = some (.int .u8 (m2 : Int)) := (q3 w2.heap.size 2 hz3).trans c2; have C3 : w3.cell? ⟨w2.heap.size, 3, none⟩ = some (.int .u8 (m3 : Int)) := (q3 w2.heap.size 3 hz3).trans c3; have C4 : w3.cell? ⟨w2.heap.size, 4, none⟩ = some (.int .u8 (m4 : Int)) := (q3 w2.heap.size 4 hz3).trans c4; have C5 : w3.cell? ⟨w2.heap.size, 5, none⟩ = some (.int .u8 (m5 : Int)) := (q3 w2.heap.size 5 hz3).trans c5; have C6 : w3.cell? ⟨w2.heap.size, 6, none⟩ = some (.int .u8 (m6 : Int)) := (q3 w2.heap.size 6 hz3).trans c6; have C7 : w3.cell? ⟨w2.heap.size, 7, none⟩ = some (.int .u8 (m7 : Int)) := (q3 w2.heap.size 7 hz3).trans c7; have C8 : w3.cell? ⟨w2.heap.size, 8, none⟩ = some (.int .u8 (m8 : Int)) := (q3 w2.heap.size 8 hz3).trans c8; have C9 : w3.cell? ⟨w2.heap.size, 9, none⟩ = some (.int .u8 (m9 : Int)) := (q3 w2.heap.size 9 hz3).trans c9; have C10 : w3.cell? ⟨w2.heap.size, 10, none⟩ = some (.int .u8 (m10 : Int)) := (q3 w2.heap.size 10 hz3).trans c10; have C11 : w3.cell? ⟨w2.heap.size, 11, none⟩ = some (.int .u8 (m11 : Int)) := (q3 w2.heap.size 11 hz3).trans c11; have C12 : w3.cell? ⟨w2.heap.size, 12, none⟩ = some (.int .u8 (m12 : Int)) := (q3 w2.heap.size 12 hz3).trans c12; have E0 : w3.cell? ⟨w.heap.size + 1, 0, none⟩ = some y0 := (q3 (w.heap.size + 1) 0 hlt).trans e0; have E1 : w3.cell? ⟨w.heap.size + 1, 1, none⟩ = some y1 := (q3 (w.heap.size + 1) 1 hlt).trans e1; have E2 : w3.cell? ⟨w.heap.size + 1, 2, none⟩ = some y2 := (q3 (w.heap.size + 1) 2 hlt).trans e2; have E3 : w3.cell? ⟨w.heap.size + 1, 3, none⟩ = some y3 := (q3 (w.heap.size + 1) 3 hlt).trans e3; have E4 : w3.cell? ⟨w.heap.size + 1, 4, none⟩ = some y4 := (q3 (w.heap.size + 1) 4 hlt).trans e4; have F2 : ∀ j, w3.frozen? ⟨w.heap.size + 1, j, none⟩ = false := fun j => (q4 (w.heap.size + 1) j hlt).trans (f2 j); clear q3 q4)
  all_goals
    go_wp2
    exact bodyPost_ret (v := .tuple #[.agg #[.int .u32 (H.s : Int), .int .u32 (H.d : Int), .int .u16 (H.p : Int), .int .u16 (H.q : Int), .int .u8 (H.r : Int)], .bool E]) (by simp [results, Try.results11, go_sem, E0, E1, E2, E3, E4, F2, hlt, hn1, hn2]) rfl ⟨rfl, by (iterate 5 (refine Below.setCell ?_ (Nat.le_succ _) _)); exact HB3.out.drew.trans (q1.mono (by show w.heap.size ≤ V.heap.size; omega))⟩
end Go.Proofs.Ytpgadbiohmofeab
