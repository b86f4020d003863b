/-
  Proved: for any two prefixes and any address, the pieces of the one less the other rise, lie in the one and not in the other, are at most 32, and hold the address, one of them alone, just if it is one of the one and not of the other (P2.7); the document's examples hold.
  Conditions: none; the law holds for every input.
-/
import Derived.Test.YtegkkekbgndmpaaPxAwake
import Derived.Test.YtegkkekbgndmpaaPxX
import Derived.Test.YtegkkekbgndmpaaPxPlD
import Derived.Test.YtegkkekbgndmpaaPxFrame
namespace Go.Proofs.Ytegkkekbgndmpaa
open Go.ChangeShapes Go.WideShapes Go.ChangeAt Go.RowKit Go.Joins
set_option linter.unusedVariables false
set_option linter.unusedSimpArgs false

theorem Row.cells {w : World} {b : Nat} {ad : Option Addr} {n cap : Nat} {l : List (Nat × Nat)} (h : Row w b (.slice ad n cap) l) (h0 : 0 < l.length) :
    ∃ g, ad = some ⟨g, 0, none⟩ ∧ ∀ k (hk : k < l.length), w.cell? ⟨g, k * 2, none⟩ = some (.int .u32 ((l[k]'hk).1 : Int)) ∧ w.cell? ⟨g, k * 2 + 1, none⟩ = some (.int .i64 ((l[k]'hk).2 : Int)) := by
  obtain ⟨ad', cap', e, hf⟩ := h.form
  simp only [Value.slice.injEq] at e
  obtain ⟨rfl, _, _⟩ := e
  exact hf h0
/-- How many of the first k pieces hold the address. -/
def cnt (x : Nat) (L : List (Nat × Nat)) (k : Nat) : Nat := ((L.take k).filter fun p => inB x p.1 p.2).length
theorem cnt_step (x : Nat) (L : List (Nat × Nat)) (k : Nat) (h : k < L.length) : cnt x L (k + 1) = cnt x L k + if inB x (L[k]).1 (L[k]).2 = true then 1 else 0 := by
  unfold cnt
  rw [List.take_succ_eq_append_getElem h, List.filter_append, List.length_append]
  congr 1
  by_cases e : inB x (L[k]).1 (L[k]).2 = true <;> simp [e]
theorem cnt_le (x : Nat) (L : List (Nat × Nat)) (k : Nat) (h : k ≤ L.length) : cnt x L k ≤ k := by
  unfold cnt
  have := List.length_filter_le (fun p : Nat × Nat => inB x p.1 p.2) (L.take k)
  rw [List.length_take] at this
  omega
theorem cmp_up (qa pa : Nat) (qn pn : Int) (h : qa < pa) : orI (cmpI (qa : Int) pa) (cmpI qn pn) = -1 := by
  have h' : (qa : Int) < pa := by omega
  simp [orI, cmpI, h']
theorem cnt_true {c d pa pn x : Nat} (hc : c ≤ 32) (e : d = c + if hasB pa (pn : Int) x = true then 1 else 0) (f : hasB pa (pn : Int) x = true) : Value.int .i64 (wrap64 ((c : Int) + 1)) = .int .i64 (d : Int) := by
  rw [f, if_pos rfl] at e; subst e; congr 1; unfold wrap64; omega
theorem cnt_false {c d pa pn x : Nat} (hc : c ≤ 32) (e : d = c + if hasB pa (pn : Int) x = true then 1 else 0) (f : hasB pa (pn : Int) x = false) : Value.int .i64 (c : Int) = .int .i64 (d : Int) := by
  rw [f, if_neg Bool.false_ne_true] at e; subst e; rfl
set_option maxRecDepth 100000 in
set_option maxHeartbeats 8000000 in
theorem splits_bad (a : Nat) (n : Int) (ha : a < 4294967296) (b : Nat) (m : Int) (hb : b < 4294967296) (x : Nat) (h : ¬ (chk a n = 0 ∧ chk b m = 0)) (w : World) :
    Calls Try.prog 7 #[.agg #[.int .u32 a, .int .i64 n], .agg #[.int .u32 b, .int .i64 m], .int .u32 (x : Int)] w fun e w' => e = .returned (.bool true) ∧ Below w.heap.size w w' := by
  have hc : cE a n b m ≠ 0 := by
    unfold cE
    by_cases k : chk a n = 0
    · rw [if_pos k]; exact fun e => h ⟨k, e⟩
    · rw [if_neg k]; exact k
  have hless := fun w1 : World => less_bad a n b m w1 ha hb hc
  by_cases h1 : chk a n = 0
  · have h3 : (chk b m != 0) = true := by simpa using fun e => h ⟨h1, e⟩
    clear h hc
    go_enter Try.func7, Try.ntmps7
    go_wp2_with (fail)
    refine (rcheck_any a n _ ha).mono ?_
    rintro e w1 ⟨rfl, hb1⟩
    have hz1 := hb1.size
    (try simp at hz1)
    have hl1_0 : w.heap.size < w1.heap.size := by omega
    have hl1_1 : w.heap.size + 1 < w1.heap.size := by omega
    have c1_0 : w1.cell? ⟨w.heap.size, 0, none⟩ = some (.int .u32 (a : Int)) := cell_on hb1 (show ((w.alloc (.cells #[.int .u32 (a : Int), .int .i64 n] 24)).alloc (.cells #[.int .u32 (b : Int), .int .i64 m] 24)).cell? ⟨w.heap.size, 0, none⟩ = some (.int .u32 (a : Int)) from by simp [go_sem])
    have c1_1 : w1.cell? ⟨w.heap.size, 1, none⟩ = some (.int .i64 n) := cell_on hb1 (show ((w.alloc (.cells #[.int .u32 (a : Int), .int .i64 n] 24)).alloc (.cells #[.int .u32 (b : Int), .int .i64 m] 24)).cell? ⟨w.heap.size, 1, none⟩ = some (.int .i64 n) from by simp [go_sem])
    have c1_2 : w1.cell? ⟨w.heap.size + 1, 0, none⟩ = some (.int .u32 (b : Int)) := cell_on hb1 (show ((w.alloc (.cells #[.int .u32 (a : Int), .int .i64 n] 24)).alloc (.cells #[.int .u32 (b : Int), .int .i64 m] 24)).cell? ⟨w.heap.size + 1, 0, none⟩ = some (.int .u32 (b : Int)) from by simp [go_sem])
    have c1_3 : w1.cell? ⟨w.heap.size + 1, 1, none⟩ = some (.int .i64 m) := cell_on hb1 (show ((w.alloc (.cells #[.int .u32 (a : Int), .int .i64 n] 24)).alloc (.cells #[.int .u32 (b : Int), .int .i64 m] 24)).cell? ⟨w.heap.size + 1, 1, none⟩ = some (.int .i64 m) from by simp [go_sem])
    have hw1 : Below w.heap.size w w1 := by (repeat (first | assumption | exact Below.refl _ _ | refine Below.drew ?_ | refine bel_drewN ?_ _ | refine Below.setCell ?_ (by first | omega | (simp; done) | (simp; omega)) _ | refine Below.alloc ?_ (by first | omega | (simp; done) | (simp; omega)) _ | refine bel_of ?_ (by assumption)))
    clear hb1
    go_wp2_with (fail)
    refine (rcheck_any b m _ hb).mono ?_
    rintro e w2 ⟨rfl, hb2⟩
    have hz2 := hb2.size
    (try simp at hz2)
    have hl2_0 : w.heap.size < w2.heap.size := by omega
    have hl2_1 : w.heap.size + 1 < w2.heap.size := by omega
    have c2_0 : w2.cell? ⟨w.heap.size, 0, none⟩ = some (.int .u32 (a : Int)) := cell_on hb2 c1_0
    have c2_1 : w2.cell? ⟨w.heap.size, 1, none⟩ = some (.int .i64 n) := cell_on hb2 c1_1
    have c2_2 : w2.cell? ⟨w.heap.size + 1, 0, none⟩ = some (.int .u32 (b : Int)) := cell_on hb2 c1_2
    have c2_3 : w2.cell? ⟨w.heap.size + 1, 1, none⟩ = some (.int .i64 m) := cell_on hb2 c1_3
    have hw2 : Below w.heap.size w w2 := by (repeat (first | assumption | exact Below.refl _ _ | refine Below.drew ?_ | refine bel_drewN ?_ _ | refine Below.setCell ?_ (by first | omega | (simp; done) | (simp; omega)) _ | refine Below.alloc ?_ (by first | omega | (simp; done) | (simp; omega)) _ | refine bel_of ?_ (by assumption)))
    clear hb2 hz1 hl1_0 hl1_1 c1_0 c1_1 c1_2 c1_3 hw1
    go_wp2_with (fail)
    refine (awake_any _).mono ?_
    rintro e w3 ⟨rfl, hb3⟩
    have hz3 := hb3.size
    (try simp at hz3)
    have hl3_0 : w.heap.size < w3.heap.size := by omega
    have hl3_1 : w.heap.size + 1 < w3.heap.size := by omega
    have c3_0 : w3.cell? ⟨w.heap.size, 0, none⟩ = some (.int .u32 (a : Int)) := cell_on hb3 c2_0
    have c3_1 : w3.cell? ⟨w.heap.size, 1, none⟩ = some (.int .i64 n) := cell_on hb3 c2_1
    have c3_2 : w3.cell? ⟨w.heap.size + 1, 0, none⟩ = some (.int .u32 (b : Int)) := cell_on hb3 c2_2
    have c3_3 : w3.cell? ⟨w.heap.size + 1, 1, none⟩ = some (.int .i64 m) := cell_on hb3 c2_3
    have hw3 : Below w.heap.size w w3 := by (repeat (first | assumption | exact Below.refl _ _ | refine Below.drew ?_ | refine bel_drewN ?_ _ | refine Below.setCell ?_ (by first | omega | (simp; done) | (simp; omega)) _ | refine Below.alloc ?_ (by first | omega | (simp; done) | (simp; omega)) _ | refine bel_of ?_ (by assumption)))
    clear hb3 hz2 hl2_0 hl2_1 c2_0 c2_1 c2_2 c2_3 hw2
    go_wp2_with (fail)
    refine (hless _).mono ?_
    rintro e w4 ⟨rfl, hb4⟩
    have hz4 := hb4.size
    (try simp at hz4)
    have hl4_0 : w.heap.size < w4.heap.size := by omega
    have hl4_1 : w.heap.size + 1 < w4.heap.size := by omega
    have c4_0 : w4.cell? ⟨w.heap.size, 0, none⟩ = some (.int .u32 (a : Int)) := cell_on hb4 c3_0
    have c4_1 : w4.cell? ⟨w.heap.size, 1, none⟩ = some (.int .i64 n) := cell_on hb4 c3_1
    have c4_2 : w4.cell? ⟨w.heap.size + 1, 0, none⟩ = some (.int .u32 (b : Int)) := cell_on hb4 c3_2
    have c4_3 : w4.cell? ⟨w.heap.size + 1, 1, none⟩ = some (.int .i64 m) := cell_on hb4 c3_3
    have hw4 : Below w.heap.size w w4 := by (repeat (first | assumption | exact Below.refl _ _ | refine Below.drew ?_ | refine bel_drewN ?_ _ | refine Below.setCell ?_ (by first | omega | (simp; done) | (simp; omega)) _ | refine Below.alloc ?_ (by first | omega | (simp; done) | (simp; omega)) _ | refine bel_of ?_ (by assumption)))
    clear hb4 hz3 hl3_0 hl3_1 c3_0 c3_1 c3_2 c3_3 hw3
    go_wp2_with (fail)
    go_ret
    exact ⟨rfl, by (repeat (first | assumption | exact Below.refl _ _ | refine Below.drew ?_ | refine bel_drewN ?_ _ | refine Below.setCell ?_ (by first | omega | (simp; done) | (simp; omega)) _ | refine Below.alloc ?_ (by first | omega | (simp; done) | (simp; omega)) _ | refine bel_of ?_ (by assumption)))⟩
  · have h3 : (chk a n != 0) = true := by simpa using h1
    clear h hc
    go_enter Try.func7, Try.ntmps7
    go_wp2_with (fail)
    refine (rcheck_any a n _ ha).mono ?_
    rintro e w1 ⟨rfl, hb1⟩
    have hz1 := hb1.size
    (try simp at hz1)
    have hl1_0 : w.heap.size < w1.heap.size := by omega
    have hl1_1 : w.heap.size + 1 < w1.heap.size := by omega
    have c1_0 : w1.cell? ⟨w.heap.size, 0, none⟩ = some (.int .u32 (a : Int)) := cell_on hb1 (show ((w.alloc (.cells #[.int .u32 (a : Int), .int .i64 n] 24)).alloc (.cells #[.int .u32 (b : Int), .int .i64 m] 24)).cell? ⟨w.heap.size, 0, none⟩ = some (.int .u32 (a : Int)) from by simp [go_sem])
    have c1_1 : w1.cell? ⟨w.heap.size, 1, none⟩ = some (.int .i64 n) := cell_on hb1 (show ((w.alloc (.cells #[.int .u32 (a : Int), .int .i64 n] 24)).alloc (.cells #[.int .u32 (b : Int), .int .i64 m] 24)).cell? ⟨w.heap.size, 1, none⟩ = some (.int .i64 n) from by simp [go_sem])
    have c1_2 : w1.cell? ⟨w.heap.size + 1, 0, none⟩ = some (.int .u32 (b : Int)) := cell_on hb1 (show ((w.alloc (.cells #[.int .u32 (a : Int), .int .i64 n] 24)).alloc (.cells #[.int .u32 (b : Int), .int .i64 m] 24)).cell? ⟨w.heap.size + 1, 0, none⟩ = some (.int .u32 (b : Int)) from by simp [go_sem])
    have c1_3 : w1.cell? ⟨w.heap.size + 1, 1, none⟩ = some (.int .i64 m) := cell_on hb1 (show ((w.alloc (.cells #[.int .u32 (a : Int), .int .i64 n] 24)).alloc (.cells #[.int .u32 (b : Int), .int .i64 m] 24)).cell? ⟨w.heap.size + 1, 1, none⟩ = some (.int .i64 m) from by simp [go_sem])
    have hw1 : Below w.heap.size w w1 := by (repeat (first | assumption | exact Below.refl _ _ | refine Below.drew ?_ | refine bel_drewN ?_ _ | refine Below.setCell ?_ (by first | omega | (simp; done) | (simp; omega)) _ | refine Below.alloc ?_ (by first | omega | (simp; done) | (simp; omega)) _ | refine bel_of ?_ (by assumption)))
    clear hb1
    go_wp2_with (fail)
    refine (awake_any _).mono ?_
    rintro e w2 ⟨rfl, hb2⟩
    have hz2 := hb2.size
    (try simp at hz2)
    have hl2_0 : w.heap.size < w2.heap.size := by omega
    have hl2_1 : w.heap.size + 1 < w2.heap.size := by omega
    have c2_0 : w2.cell? ⟨w.heap.size, 0, none⟩ = some (.int .u32 (a : Int)) := cell_on hb2 c1_0
    have c2_1 : w2.cell? ⟨w.heap.size, 1, none⟩ = some (.int .i64 n) := cell_on hb2 c1_1
    have c2_2 : w2.cell? ⟨w.heap.size + 1, 0, none⟩ = some (.int .u32 (b : Int)) := cell_on hb2 c1_2
    have c2_3 : w2.cell? ⟨w.heap.size + 1, 1, none⟩ = some (.int .i64 m) := cell_on hb2 c1_3
    have hw2 : Below w.heap.size w w2 := by (repeat (first | assumption | exact Below.refl _ _ | refine Below.drew ?_ | refine bel_drewN ?_ _ | refine Below.setCell ?_ (by first | omega | (simp; done) | (simp; omega)) _ | refine Below.alloc ?_ (by first | omega | (simp; done) | (simp; omega)) _ | refine bel_of ?_ (by assumption)))
    clear hb2 hz1 hl1_0 hl1_1 c1_0 c1_1 c1_2 c1_3 hw1
    go_wp2_with (fail)
    refine (hless _).mono ?_
    rintro e w3 ⟨rfl, hb3⟩
    have hz3 := hb3.size
    (try simp at hz3)
    have hl3_0 : w.heap.size < w3.heap.size := by omega
    have hl3_1 : w.heap.size + 1 < w3.heap.size := by omega
    have c3_0 : w3.cell? ⟨w.heap.size, 0, none⟩ = some (.int .u32 (a : Int)) := cell_on hb3 c2_0
    have c3_1 : w3.cell? ⟨w.heap.size, 1, none⟩ = some (.int .i64 n) := cell_on hb3 c2_1
    have c3_2 : w3.cell? ⟨w.heap.size + 1, 0, none⟩ = some (.int .u32 (b : Int)) := cell_on hb3 c2_2
    have c3_3 : w3.cell? ⟨w.heap.size + 1, 1, none⟩ = some (.int .i64 m) := cell_on hb3 c2_3
    have hw3 : Below w.heap.size w w3 := by (repeat (first | assumption | exact Below.refl _ _ | refine Below.drew ?_ | refine bel_drewN ?_ _ | refine Below.setCell ?_ (by first | omega | (simp; done) | (simp; omega)) _ | refine Below.alloc ?_ (by first | omega | (simp; done) | (simp; omega)) _ | refine bel_of ?_ (by assumption)))
    clear hb3 hz2 hl2_0 hl2_1 c2_0 c2_1 c2_2 c2_3 hw2
    go_wp2_with (fail)
    go_ret
    exact ⟨rfl, by (repeat (first | assumption | exact Below.refl _ _ | refine Below.drew ?_ | refine bel_drewN ?_ _ | refine Below.setCell ?_ (by first | omega | (simp; done) | (simp; omega)) _ | refine Below.alloc ?_ (by first | omega | (simp; done) | (simp; omega)) _ | refine bel_of ?_ (by assumption)))⟩
set_option maxRecDepth 100000 in
set_option maxHeartbeats 16000000 in
theorem splits_good (a n b m x : Nat) (ha : a < 4294967296) (hb : b < 4294967296) (hx0 : x < 4294967296) (hn : n ≤ 32) (hm : m ≤ 32) (h0 : a % bk n = 0) (k0 : b % bk m = 0) (w : World) :
    Calls Try.prog 7 #[.agg #[.int .u32 a, .int .i64 n], .agg #[.int .u32 b, .int .i64 m], .int .u32 (x : Int)] w fun e w' => e = .returned (.bool true) ∧ Below w.heap.size w w' := by
  have ka := chk_in a n hn h0
  have kb := chk_in b m hm k0
  obtain ⟨L, eL⟩ : ∃ L, L = lessF (32 - n) a n b m := ⟨_, rfl⟩
  obtain ⟨ia, eia⟩ : ∃ t, t = inB x a n := ⟨_, rfl⟩
  obtain ⟨ib, eib⟩ : ∃ t, t = inB x b m := ⟨_, rfl⟩
  have hP := pieces_of (32 - n) a n b m x rfl hn hm ha h0 k0
  have hN := pieces_len (32 - n) a n b m rfl hn hm ha h0 k0
  rw [← eL] at hP hN
  have hlen : L.length ≤ 32 := by
    cases e : witB b m a n with
    | true => have := hN.1 e; omega
    | false => have := hN.2 e; omega
  have hta := top_lt a n ha h0 hn
  have Fok : ∀ k (hk : k < L.length), (L[k]).1 < 4294967296 ∧ witB (L[k]).1 ((L[k]).2 : Int) a n = true ∧ witB (L[k]).1 ((L[k]).2 : Int) b m = false ∧ witB b m (L[k]).1 ((L[k]).2 : Int) = false ∧ hasB (L[k]).1 ((L[k]).2 : Int) x = inB x (L[k]).1 (L[k]).2 := fun k hk => by
    obtain ⟨o1, o2, o3, o4, o5⟩ := hP.ok _ (List.getElem_mem hk)
    have l1 := le_hi (L[k]).1 (L[k]).2
    have l2 := le_hi b m
    have e1 : hi a n = a + (bk n - 1) := rfl
    refine ⟨by omega, (wit_runs _ _ a n o1 hn o2 h0).2 ⟨o3, o4⟩, ?_, ?_, has_in _ _ x o1 o2⟩
    · rcases Bool.eq_false_or_eq_true (witB (L[k]).1 ((L[k]).2 : Int) b m) with e | e
      · have := (wit_runs _ _ b m o1 hm o2 k0).1 e; omega
      · exact e
    · rcases Bool.eq_false_or_eq_true (witB b m (L[k]).1 ((L[k]).2 : Int)) with e | e
      · have := (wit_runs b m _ _ hm o1 k0 o2).1 e; omega
      · exact e
  have Fup : ∀ j (hj : j + 1 < L.length), (L[j]).1 < (L[j + 1]).1 := fun j hj => by
    have h1 := List.pairwise_iff_getElem.1 hP.up j (j + 1) (by omega) hj (by omega)
    have h2 := le_hi (L[j]).1 (L[j]).2
    omega
  have Fst : ∀ k (hk : k < L.length), cnt x L (k + 1) = cnt x L k + if hasB (L[k]).1 ((L[k]).2 : Int) x = true then 1 else 0 := fun k hk => by
    rw [(Fok k hk).2.2.2.2]; exact cnt_step x L k hk
  have Fend : cnt x L L.length = if ia && !ib then 1 else 0 := by rw [eia, eib, ← hP.one]; unfold cnt; rw [List.take_length]
  have hless : ∀ w1 : World, Calls Try.prog 26 #[.agg #[.int .u32 a, .int .i64 n], .agg #[.int .u32 b, .int .i64 m]] w1 fun e w' => ∃ v, e = .returned v ∧ Row w' w1.heap.size v L ∧ Below w1.heap.size w1 w' := fun w1 => by
    rw [eL]; exact less_valid (32 - n) a n b m rfl hn ha hb ka kb w1
  have hHa : ∀ w1 : World, Calls Try.prog 15 #[.agg #[.int .u32 a, .int .i64 n], .int .u32 (x : Int)] w1 fun e w' => e = .returned (.bool ia) ∧ Below w1.heap.size w1 w' := fun w1 => by
    rw [eia, ← has_in a n x hn h0]; exact has_any a n x w1 ha hx0
  have hHb : ∀ w1 : World, Calls Try.prog 15 #[.agg #[.int .u32 b, .int .i64 m], .int .u32 (x : Int)] w1 fun e w' => e = .returned (.bool ib) ∧ Below w1.heap.size w1 w' := fun w1 => by
    rw [eib, ← has_in b m x hm k0]; exact has_any b m x w1 hb hx0
  have FE : Hid (_) := Fend
  clear eL eia eib hP hN h0 k0 hta Fend
  go_enter Try.func7, Try.ntmps7
  go_wp2_with (fail)
  refine (rcheck_any a n _ ha).mono ?_
  rintro e w1 ⟨rfl, hb1⟩
  have hz1 := hb1.size
  (try simp at hz1)
  have hl1_0 : w.heap.size < w1.heap.size := by omega
  have hl1_1 : w.heap.size + 1 < w1.heap.size := by omega
  have c1_0 : w1.cell? ⟨w.heap.size, 0, none⟩ = some (.int .u32 (a : Int)) := cell_on hb1 (show ((w.alloc (.cells #[.int .u32 (a : Int), .int .i64 (n : Int)] 24)).alloc (.cells #[.int .u32 (b : Int), .int .i64 (m : Int)] 24)).cell? ⟨w.heap.size, 0, none⟩ = some (.int .u32 (a : Int)) from by simp [go_sem])
  have c1_1 : w1.cell? ⟨w.heap.size, 1, none⟩ = some (.int .i64 (n : Int)) := cell_on hb1 (show ((w.alloc (.cells #[.int .u32 (a : Int), .int .i64 (n : Int)] 24)).alloc (.cells #[.int .u32 (b : Int), .int .i64 (m : Int)] 24)).cell? ⟨w.heap.size, 1, none⟩ = some (.int .i64 (n : Int)) from by simp [go_sem])
  have c1_2 : w1.cell? ⟨w.heap.size + 1, 0, none⟩ = some (.int .u32 (b : Int)) := cell_on hb1 (show ((w.alloc (.cells #[.int .u32 (a : Int), .int .i64 (n : Int)] 24)).alloc (.cells #[.int .u32 (b : Int), .int .i64 (m : Int)] 24)).cell? ⟨w.heap.size + 1, 0, none⟩ = some (.int .u32 (b : Int)) from by simp [go_sem])
  have c1_3 : w1.cell? ⟨w.heap.size + 1, 1, none⟩ = some (.int .i64 (m : Int)) := cell_on hb1 (show ((w.alloc (.cells #[.int .u32 (a : Int), .int .i64 (n : Int)] 24)).alloc (.cells #[.int .u32 (b : Int), .int .i64 (m : Int)] 24)).cell? ⟨w.heap.size + 1, 1, none⟩ = some (.int .i64 (m : Int)) from by simp [go_sem])
  have hw1 : Below w.heap.size w w1 := by (repeat (first | assumption | exact Below.refl _ _ | refine Below.drew ?_ | refine bel_drewN ?_ _ | refine Below.setCell ?_ (by first | omega | (simp; done) | (simp; omega)) _ | refine Below.alloc ?_ (by first | omega | (simp; done) | (simp; omega)) _ | refine bel_of ?_ (by assumption)))
  clear hb1
  go_wp2_with (fail)
  refine (rcheck_any b m _ hb).mono ?_
  rintro e w2 ⟨rfl, hb2⟩
  have hz2 := hb2.size
  (try simp at hz2)
  have hl2_0 : w.heap.size < w2.heap.size := by omega
  have hl2_1 : w.heap.size + 1 < w2.heap.size := by omega
  have c2_0 : w2.cell? ⟨w.heap.size, 0, none⟩ = some (.int .u32 (a : Int)) := cell_on hb2 c1_0
  have c2_1 : w2.cell? ⟨w.heap.size, 1, none⟩ = some (.int .i64 (n : Int)) := cell_on hb2 c1_1
  have c2_2 : w2.cell? ⟨w.heap.size + 1, 0, none⟩ = some (.int .u32 (b : Int)) := cell_on hb2 c1_2
  have c2_3 : w2.cell? ⟨w.heap.size + 1, 1, none⟩ = some (.int .i64 (m : Int)) := cell_on hb2 c1_3
  have hw2 : Below w.heap.size w w2 := by (repeat (first | assumption | exact Below.refl _ _ | refine Below.drew ?_ | refine bel_drewN ?_ _ | refine Below.setCell ?_ (by first | omega | (simp; done) | (simp; omega)) _ | refine Below.alloc ?_ (by first | omega | (simp; done) | (simp; omega)) _ | refine bel_of ?_ (by assumption)))
  clear hb2 hz1 hl1_0 hl1_1 c1_0 c1_1 c1_2 c1_3 hw1
  go_wp2_with (fail)
  refine (hless _).mono ?_
  rintro e w3 ⟨v, rfl, hr3, hb3⟩
  obtain ⟨ad, cap, rfl, _⟩ := hr3.form
  have hz3 := hb3.size
  (try simp at hz3)
  have hl3_0 : w.heap.size < w3.heap.size := by omega
  have hl3_1 : w.heap.size + 1 < w3.heap.size := by omega
  have c3_0 : w3.cell? ⟨w.heap.size, 0, none⟩ = some (.int .u32 (a : Int)) := cell_on hb3 c2_0
  have c3_1 : w3.cell? ⟨w.heap.size, 1, none⟩ = some (.int .i64 (n : Int)) := cell_on hb3 c2_1
  have c3_2 : w3.cell? ⟨w.heap.size + 1, 0, none⟩ = some (.int .u32 (b : Int)) := cell_on hb3 c2_2
  have c3_3 : w3.cell? ⟨w.heap.size + 1, 1, none⟩ = some (.int .i64 (m : Int)) := cell_on hb3 c2_3
  have hw3 : Below w.heap.size w w3 := by (repeat (first | assumption | exact Below.refl _ _ | refine Below.drew ?_ | refine bel_drewN ?_ _ | refine Below.setCell ?_ (by first | omega | (simp; done) | (simp; omega)) _ | refine Below.alloc ?_ (by first | omega | (simp; done) | (simp; omega)) _ | refine bel_of ?_ (by assumption)))
  clear hb3 hz2 hl2_0 hl2_1 c2_0 c2_1 c2_2 c2_3 hw2
  go_wp2_with (fail)
  go_loopw [8, 9] (fun s i wr => ∃ k : Nat, k ≤ L.length ∧ i = .int .i64 k ∧ s = .int .i64 (cnt x L k : Int) ∧ wr.cell? ⟨w.heap.size, 0, none⟩ = some (.int .u32 (a : Int)) ∧ wr.cell? ⟨w.heap.size, 1, none⟩ = some (.int .i64 (n : Int)) ∧ wr.cell? ⟨w.heap.size + 1, 0, none⟩ = some (.int .u32 (b : Int)) ∧ wr.cell? ⟨w.heap.size + 1, 1, none⟩ = some (.int .i64 (m : Int)) ∧ w.heap.size + 1 < wr.heap.size ∧ Hid (Row wr w2.heap.size (.slice ad L.length cap) L) ∧ Below w.heap.size w wr) (fun _ i _ => L.length - (intOf i).toNat)
  case atStart => exact ⟨0, Nat.zero_le _, rfl, by simp [cnt], c3_0, c3_1, c3_2, c3_3, hl3_1, hr3, hw3⟩
  case round =>
    clear hz3 hl3_0 hl3_1 c3_0 c3_1 c3_2 c3_3 hw3 hr3
    obtain ⟨k, hk, rfl, rfl, b0, b1, b2, b3, hls, hR, hbel⟩ := hrel
    have hl0 : w.heap.size < wr.heap.size := by omega
    by_cases hlt : k < L.length
    · cases k with
      | zero =>
        obtain ⟨g, rfl, cg⟩ := hR.out.cells (by omega)
        obtain ⟨f1, f2, f3, f4, f5⟩ := Fok (0) hlt
        obtain ⟨x0, x1⟩ := cg (0) hlt
        have fst := Fst (0) hlt
        obtain ⟨pa, epa⟩ : ∃ z, z = (L[0]).1 := ⟨_, rfl⟩
        obtain ⟨pn, epn⟩ : ∃ z, z = (L[0]).2 := ⟨_, rfl⟩
        rw [← epa] at f1
        rw [← epa, ← epn] at f2 f3 f4 f5 fst
        rw [← epa] at x0
        rw [← epn] at x1
        simp only [Nat.zero_mul, Nat.zero_add] at x0 x1
        have HF : Hid (_) := fst
        have HC : Hid (cnt x L (0) ≤ 32) := (by have h := cnt_le x L (0) (by omega); show _ ≤ _; omega)
        clear fst epa epn cg
        have hlt' : ((0 : Nat) : Int) < (L.length : Int) := by omega
        go_wp2_with (fail)
        have kne : Nonempty (Kin wr) := ⟨⟨_, Below.refl _ _⟩⟩
        have kb0 := fun y : Kin wr => cell_on y.is b0
        have kb1 := fun y : Kin wr => cell_on y.is b1
        have kb2 := fun y : Kin wr => cell_on y.is b2
        have kb3 := fun y : Kin wr => cell_on y.is b3
        have kx0 := fun y : Kin wr => cell_on y.is x0
        have kx1 := fun y : Kin wr => cell_on y.is x1
        refine wp_region_kin wr (Below.refl _ _) (by kernel_rfl) (by kernel_rfl) ?_
        repeat (go_big_quiet_step (first | (go_at_call 22; refine kin_call (within_any _ _ _ _ _ ?_ ?_) <;> assumption) | (go_at_call 24; exact kin_call (compare_any _ _ _ _ _))))
        refine wpQuiet_nil ?_
        rintro wq ⟨⟨xq, hxq⟩, hyq⟩
        have hbq : Below wr.heap.size wr wq := by rw [hyq]; exact hxq
        clear hyq hxq xq kne kb0 kb1 kb2 kb3 kx0 kx1
        have qb0 := cell_on hbq b0
        have qb1 := cell_on hbq b1
        have qb2 := cell_on hbq b2
        have qb3 := cell_on hbq b3
        have qx0 := cell_on hbq x0
        have qx1 := cell_on hbq x1
        have hzq := hbq.size
        cases hx : inB x pa pn with
        | true =>
          go_wp2_with (fail)
          refine (has_any pa pn x _ f1 hx0).mono ?_
          rintro e ws ⟨rfl, hbs⟩
          have hzs := hbs.size
          have f6 : hasB pa (pn : Int) x = true := f5.trans hx
          clear f5 hx
          go_wp2
          go_roundw
          case rel => exact ⟨0 + 1, by omega, by go_num, cnt_true HC.out HF.out f6, cell_on hbs qb0, cell_on hbs qb1, cell_on hbs qb2, cell_on hbs qb3, by omega, (hR.out.on hbq).on hbs, by (repeat (first | assumption | exact Below.refl _ _ | refine Below.drew ?_ | refine bel_drewN ?_ _ | refine Below.setCell ?_ (by first | omega | (simp; done) | (simp; omega)) _ | refine Below.alloc ?_ (by first | omega | (simp; done) | (simp; omega)) _ | refine bel_of ?_ (by assumption)))⟩
          case measure => simp [intOf]; omega
        | false =>
          go_wp2_with (fail)
          refine (has_any pa pn x _ f1 hx0).mono ?_
          rintro e ws ⟨rfl, hbs⟩
          have hzs := hbs.size
          have f6 : hasB pa (pn : Int) x = false := f5.trans hx
          clear f5 hx
          go_wp2
          go_roundw
          case rel => exact ⟨0 + 1, by omega, by go_num, cnt_false HC.out HF.out f6, cell_on hbs qb0, cell_on hbs qb1, cell_on hbs qb2, cell_on hbs qb3, by omega, (hR.out.on hbq).on hbs, by (repeat (first | assumption | exact Below.refl _ _ | refine Below.drew ?_ | refine bel_drewN ?_ _ | refine Below.setCell ?_ (by first | omega | (simp; done) | (simp; omega)) _ | refine Below.alloc ?_ (by first | omega | (simp; done) | (simp; omega)) _ | refine bel_of ?_ (by assumption)))⟩
          case measure => simp [intOf]; omega
      | succ j =>
        obtain ⟨g, rfl, cg⟩ := hR.out.cells (by omega)
        obtain ⟨f1, f2, f3, f4, f5⟩ := Fok (j + 1) hlt
        obtain ⟨x0, x1⟩ := cg (j + 1) hlt
        obtain ⟨y0, y1⟩ := cg j (by omega)
        have fup := Fup j hlt
        have fst := Fst (j + 1) hlt
        obtain ⟨pa, epa⟩ : ∃ z, z = (L[j + 1]).1 := ⟨_, rfl⟩
        obtain ⟨pn, epn⟩ : ∃ z, z = (L[j + 1]).2 := ⟨_, rfl⟩
        rw [← epa] at f1
        rw [← epa, ← epn] at f2 f3 f4 f5 fst
        rw [← epa] at x0
        rw [← epn] at x1
        obtain ⟨qa, eqa⟩ : ∃ z, z = (L[j]).1 := ⟨_, rfl⟩
        obtain ⟨qn, eqn⟩ : ∃ z, z = (L[j]).2 := ⟨_, rfl⟩
        rw [← eqa] at y0
        rw [← eqn] at y1
        rw [← eqa, ← epa] at fup
        have fcmp := cmp_up qa pa (qn : Int) (pn : Int) fup
        clear eqa eqn fup
        have HF : Hid (_) := fst
        have HC : Hid (cnt x L (j + 1) ≤ 32) := (by have h := cnt_le x L (j + 1) (by omega); show _ ≤ _; omega)
        clear fst epa epn cg
        have hlt' : ((j + 1 : Nat) : Int) < (L.length : Int) := by omega
        have hj0 : (0 : Int) ≤ (j : Int) := by omega
        have hj1 : (j : Int) < (L.length : Int) := by omega
        have hj2 : decide ((0 : Int) < (j : Int) + 1) = true := decide_eq_true (by omega)
        have hj3 : (0 : Int) < (j : Int) + 1 := by omega
        go_wp2_with (fail)
        have kne : Nonempty (Kin wr) := ⟨⟨_, Below.refl _ _⟩⟩
        have kb0 := fun y : Kin wr => cell_on y.is b0
        have kb1 := fun y : Kin wr => cell_on y.is b1
        have kb2 := fun y : Kin wr => cell_on y.is b2
        have kb3 := fun y : Kin wr => cell_on y.is b3
        have kx0 := fun y : Kin wr => cell_on y.is x0
        have kx1 := fun y : Kin wr => cell_on y.is x1
        have ky0 := fun y : Kin wr => cell_on y.is y0
        have ky1 := fun y : Kin wr => cell_on y.is y1
        refine wp_region_kin wr (Below.refl _ _) (by kernel_rfl) (by kernel_rfl) ?_
        repeat (go_big_quiet_step (first | (go_at_call 22; refine kin_call (within_any _ _ _ _ _ ?_ ?_) <;> assumption) | (go_at_call 24; exact kin_call (compare_any _ _ _ _ _))))
        refine wpQuiet_nil ?_
        rintro wq ⟨⟨xq, hxq⟩, hyq⟩
        have hbq : Below wr.heap.size wr wq := by rw [hyq]; exact hxq
        clear hyq hxq xq kne kb0 kb1 kb2 kb3 kx0 kx1 ky0 ky1
        have qb0 := cell_on hbq b0
        have qb1 := cell_on hbq b1
        have qb2 := cell_on hbq b2
        have qb3 := cell_on hbq b3
        have qx0 := cell_on hbq x0
        have qx1 := cell_on hbq x1
        have hzq := hbq.size
        cases hx : inB x pa pn with
        | true =>
          go_wp2_with (fail)
          refine (has_any pa pn x _ f1 hx0).mono ?_
          rintro e ws ⟨rfl, hbs⟩
          have hzs := hbs.size
          have f6 : hasB pa (pn : Int) x = true := f5.trans hx
          clear f5 hx
          go_wp2
          go_roundw
          case rel => exact ⟨j + 1 + 1, by omega, by go_num, cnt_true HC.out HF.out f6, cell_on hbs qb0, cell_on hbs qb1, cell_on hbs qb2, cell_on hbs qb3, by omega, (hR.out.on hbq).on hbs, by (repeat (first | assumption | exact Below.refl _ _ | refine Below.drew ?_ | refine bel_drewN ?_ _ | refine Below.setCell ?_ (by first | omega | (simp; done) | (simp; omega)) _ | refine Below.alloc ?_ (by first | omega | (simp; done) | (simp; omega)) _ | refine bel_of ?_ (by assumption)))⟩
          case measure => simp [intOf]; omega
        | false =>
          go_wp2_with (fail)
          refine (has_any pa pn x _ f1 hx0).mono ?_
          rintro e ws ⟨rfl, hbs⟩
          have hzs := hbs.size
          have f6 : hasB pa (pn : Int) x = false := f5.trans hx
          clear f5 hx
          go_wp2
          go_roundw
          case rel => exact ⟨j + 1 + 1, by omega, by go_num, cnt_false HC.out HF.out f6, cell_on hbs qb0, cell_on hbs qb1, cell_on hbs qb2, cell_on hbs qb3, by omega, (hR.out.on hbq).on hbs, by (repeat (first | assumption | exact Below.refl _ _ | refine Below.drew ?_ | refine bel_drewN ?_ _ | refine Below.setCell ?_ (by first | omega | (simp; done) | (simp; omega)) _ | refine Below.alloc ?_ (by first | omega | (simp; done) | (simp; omega)) _ | refine bel_of ?_ (by assumption)))⟩
          case measure => simp [intOf]; omega
    · obtain rfl : k = L.length := by omega
      have hle : decide ((L.length : Int) ≤ 32) = true := decide_eq_true (by omega)
      have hle2 : (L.length : Int) ≤ 32 := by omega
      obtain ⟨c0, ec0⟩ : ∃ z, z = cnt x L L.length := ⟨_, rfl⟩
      rw [← ec0]
      have Fe2 := FE.out
      rw [← ec0] at Fe2
      have FE3 : Hid (_) := Fe2
      clear ec0 Fok Fup Fst Fe2 FE
      go_wp2_with (fail)
      refine (hHa _).mono ?_
      rintro e w4 ⟨rfl, hb4⟩
      have hz4 := hb4.size
      (try simp at hz4)
      have hl4_0 : w.heap.size < w4.heap.size := by omega
      have hl4_1 : w.heap.size + 1 < w4.heap.size := by omega
      have c4_0 : w4.cell? ⟨w.heap.size, 0, none⟩ = some (.int .u32 (a : Int)) := cell_on hb4 b0
      have c4_1 : w4.cell? ⟨w.heap.size, 1, none⟩ = some (.int .i64 (n : Int)) := cell_on hb4 b1
      have c4_2 : w4.cell? ⟨w.heap.size + 1, 0, none⟩ = some (.int .u32 (b : Int)) := cell_on hb4 b2
      have c4_3 : w4.cell? ⟨w.heap.size + 1, 1, none⟩ = some (.int .i64 (m : Int)) := cell_on hb4 b3
      have hw4 : Below w.heap.size w w4 := by (repeat (first | assumption | exact Below.refl _ _ | refine Below.drew ?_ | refine bel_drewN ?_ _ | refine Below.setCell ?_ (by first | omega | (simp; done) | (simp; omega)) _ | refine Below.alloc ?_ (by first | omega | (simp; done) | (simp; omega)) _ | refine bel_of ?_ (by assumption)))
      clear hb4
      go_wp2_with (fail)
      refine (hHb _).mono ?_
      rintro e w5 ⟨rfl, hb5⟩
      have hz5 := hb5.size
      (try simp at hz5)
      have hl5_0 : w.heap.size < w5.heap.size := by omega
      have hl5_1 : w.heap.size + 1 < w5.heap.size := by omega
      have c5_0 : w5.cell? ⟨w.heap.size, 0, none⟩ = some (.int .u32 (a : Int)) := cell_on hb5 c4_0
      have c5_1 : w5.cell? ⟨w.heap.size, 1, none⟩ = some (.int .i64 (n : Int)) := cell_on hb5 c4_1
      have c5_2 : w5.cell? ⟨w.heap.size + 1, 0, none⟩ = some (.int .u32 (b : Int)) := cell_on hb5 c4_2
      have c5_3 : w5.cell? ⟨w.heap.size + 1, 1, none⟩ = some (.int .i64 (m : Int)) := cell_on hb5 c4_3
      have hw5 : Below w.heap.size w w5 := by (repeat (first | assumption | exact Below.refl _ _ | refine Below.drew ?_ | refine bel_drewN ?_ _ | refine Below.setCell ?_ (by first | omega | (simp; done) | (simp; omega)) _ | refine Below.alloc ?_ (by first | omega | (simp; done) | (simp; omega)) _ | refine bel_of ?_ (by assumption)))
      clear hb5 hz4 hl4_0 hl4_1 c4_0 c4_1 c4_2 c4_3 hw4
      go_wp2_with (fail)
      refine (awake_any _).mono ?_
      rintro e w6 ⟨rfl, hb6⟩
      have hz6 := hb6.size
      (try simp at hz6)
      have hl6_0 : w.heap.size < w6.heap.size := by omega
      have hl6_1 : w.heap.size + 1 < w6.heap.size := by omega
      have c6_0 : w6.cell? ⟨w.heap.size, 0, none⟩ = some (.int .u32 (a : Int)) := cell_on hb6 c5_0
      have c6_1 : w6.cell? ⟨w.heap.size, 1, none⟩ = some (.int .i64 (n : Int)) := cell_on hb6 c5_1
      have c6_2 : w6.cell? ⟨w.heap.size + 1, 0, none⟩ = some (.int .u32 (b : Int)) := cell_on hb6 c5_2
      have c6_3 : w6.cell? ⟨w.heap.size + 1, 1, none⟩ = some (.int .i64 (m : Int)) := cell_on hb6 c5_3
      have hw6 : Below w.heap.size w w6 := by (repeat (first | assumption | exact Below.refl _ _ | refine Below.drew ?_ | refine bel_drewN ?_ _ | refine Below.setCell ?_ (by first | omega | (simp; done) | (simp; omega)) _ | refine Below.alloc ?_ (by first | omega | (simp; done) | (simp; omega)) _ | refine bel_of ?_ (by assumption)))
      clear hb6 hz5 hl5_0 hl5_1 c5_0 c5_1 c5_2 c5_3 hw5
      cases ia <;> cases ib
      all_goals
        have Fend := FE3.out
        simp at Fend
        subst Fend
        go_wp2_with (fail)
        go_ret
        exact ⟨rfl, by (repeat (first | assumption | exact Below.refl _ _ | refine Below.drew ?_ | refine bel_drewN ?_ _ | refine Below.setCell ?_ (by first | omega | (simp; done) | (simp; omega)) _ | refine Below.alloc ?_ (by first | omega | (simp; done) | (simp; omega)) _ | refine bel_of ?_ (by assumption)))⟩
theorem prefixSplits_walk (a : Nat) (n : Int) (ha : a < 4294967296) (b : Nat) (m : Int) (hb : b < 4294967296) (x : Nat) (hx : x < 4294967296) (w : World) :
    Calls Try.prog 7 #[.agg #[.int .u32 a, .int .i64 n], .agg #[.int .u32 b, .int .i64 m], .int .u32 (x : Int)] w fun e w' => e = .returned (.bool true) ∧ Below w.heap.size w w' := by
  by_cases h : chk a n = 0 ∧ chk b m = 0
  · obtain ⟨n', rfl, hn, h0⟩ := chk_ok h.1
    obtain ⟨m', rfl, hm, k0⟩ := chk_ok h.2
    exact splits_good a n' b m' x ha hb hx hn hm h0 k0 w
  · exact splits_bad a n ha b m hb x h w

set_option maxRecDepth 100000 in
theorem prefixSplits_lifted (os : Os) (started : os.Started) (H : Type) (enc : TypeId × Value → H) :
    ReturnsInHanded {} Try.checked os 7 .any (Rows.prefixSplitsSpec.pre6 enc Try.prog Try.f7 Rows.prefixSplitsRow.domain false) (Rows.prefixSplitsSpec.post enc Try.prog Try.f7 false true false false) := by
  refine returnsInHanded_of_change (C := Try.checked) own started (by kernel_rfl) Try.func7
    (ChangeSpec.witness6 (enc := enc) (C := Try.checked) false ⟨#[], #[.agg #[.int .u32 0, .int .i64 0], .agg #[.int .u32 0, .int .i64 0], .int .u32 0], []⟩ 8 (by kernel_rfl) (by kernel_rfl) (by kernel_rfl) (by kernel_rfl)) ?_
  intro W base args ds gs before hval0 hW hcnd _
  have hval : ∀ (j : Nat) t v, Try.f7.params[j]? = some t → args[j]? = some v → Value.okWide Try.prog W .any base t v := hval0
  have hW' := hW
  obtain ⟨p, q, hA0, hV, rfl, hfz, hnd⟩ := hW
  have hA : DataW.TrodAll enc Try.prog W 0 (fun _ => true) true Try.f7.params.toList args.toList ds p := hA0
  rw [Try.params7] at hA hval
  obtain ⟨v0, vs0, d0, ds0, p0, q0, hargs, rfl, rfl, h0, r0⟩ := trodAll_cons hA
  obtain ⟨v1, vs1, d1, ds1, p1, q1, rfl, rfl, rfl, h1, r1⟩ := trodAll_cons r0
  obtain ⟨v2, vs2, d2, ds2, p2, q2, rfl, rfl, rfl, h2, r2⟩ := trodAll_cons r1
  obtain ⟨rfl, rfl, rfl⟩ := trodAll_nil r2
  obtain rfl : args = #[v0, v1, v2] := by cases args; simp_all
  obtain ⟨rfl, rfl⟩ := trodVars_none hV
  obtain ⟨a0, n0, rfl, rfl, rfl, w0, x0⟩ := open_px (hval 0 24 v0 rfl rfl) h0
  obtain ⟨b0, rfl, t0⟩ := wf_u32 w0
  obtain ⟨a1, n1, rfl, rfl, rfl, w1, x1⟩ := open_px (hval 1 24 v1 rfl rfl) h1
  obtain ⟨b1, rfl, t1⟩ := wf_u32 w1
  obtain ⟨a2, rfl, rfl, rfl, w2⟩ := open_int Try.underlying22 (hval 2 22 v2 rfl rfl) h2
  obtain ⟨b2, rfl, t2⟩ := wf_u32 w2
  clear hA0 hval0
  simp only [List.append_nil] at hW'
  refine (prefixSplits_walk b0 n0 t0 b1 n1 t1 b2 t2 W).mono fun e W' ⟨he, bel⟩ => ?_
  subst he
  exact ⟨_, rfl, _, _, _, [], _, [], hW', trodAll_mk1 (shut_bool Try.underlying4 _), (trodAll_cons_mk (shut_px w0 x0) (trodAll_cons_mk (shut_px w1 x1) (trodAll_cons_mk (shut_int Try.underlying22 w2) trodAll_mk0))), rfl, bel.frame _, fun h => by cases h⟩

/-- The given statement. -/
theorem prefixSplits_holds : Rows.PrefixSplitsSaid :=
  OpenClaim.holds_of_wide 7 Try.f7 rfl rfl rfl rfl rfl rfl rfl ⟨rfl, rfl, rfl, rfl, rfl⟩ rfl rfl rfl rfl rfl (by kernel_rfl) Try.func7 (by kernel_rfl)
    (of_decide_eq_true (by kernel_rfl)) (by unfold Func.isWrapper; first | (rw [if_pos (by decide +kernel)]; kernel_rfl) | (rw [if_neg (by decide +kernel)]; exact ⟨rfl, rfl⟩))
    (fun os started H enc _ => prefixSplits_lifted os started H enc)
#print axioms prefixSplits_holds
end Go.Proofs.Ytegkkekbgndmpaa
