/-
  span.Less: what it hands back.
-/
import Derived.Test.YthmekipdhlipbabSpGa
namespace Go.Proofs.Ythmekipdhlipbab
open Go.RowKit Go.Shelf
set_option linter.unusedVariables false
set_option linter.unusedSimpArgs false

theorem bd_one {a b : Nat} (ha : a < 65536) (hb : b < 65536) : Bd [(a, b)] := by
  intro s hs
  obtain rfl : s = (a, b) := by simpa using hs
  exact ⟨ha, hb⟩
/-- The ports of one span less another. -/
def lessB (x y : Nat × Nat) (i : Nat) : Bool := hasB x i && !hasB y i
theorem less_no (a b c d : Nat) (h : ¬ max a c ≤ min b d) : canonOf (memB [(a, b)]) = canonOf (lessB (a, b) (c, d)) := by
  refine canonOf_congr fun i _ => ?_
  rw [memB_cons, memB_nil, Bool.or_false]
  unfold lessB
  cases h1 : hasB (a, b) i with
  | false => rfl
  | true =>
    rw [hasB_iff] at h1
    have h2 : hasB (c, d) i = false := by
      cases h3 : hasB (c, d) i with
      | false => rfl
      | true => rw [hasB_iff] at h3; exfalso; apply h; simp only at h1 h3; omega
    rw [h2]; rfl
theorem less_yes (a b c d p q : Nat) (hp : p = max a c) (hq : q = min b d) (h : p ≤ q) (hb : b < 65536) :
    (if a < p then [(a, p - 1)] else []) ++ (if q < b then [(q + 1, b)] else []) = canonOf (lessB (a, b) (c, d)) := by
  refine eq_canonOf ?_ fun i hi => ?_
  · by_cases h1 : a < p <;> by_cases h2 : q < b <;> simp [h1, h2, Canon] <;> omega
  · unfold lessB
    rw [Bool.eq_iff_iff, Bool.and_eq_true, hasB_iff, Bool.not_eq_true', ← Bool.not_eq_true, hasB_iff]
    by_cases h1 : a < p <;> by_cases h2 : q < b <;> simp [h1, h2, memB_cons, memB_nil, hasB_iff] <;> omega
set_option maxHeartbeats 1000000 in
theorem lessS (a b c d : Nat) (w : World) (ha : a < 65536) (hb : b < 65536) :
    Calls Try.prog 16 #[.agg #[.int .u16 a, .int .u16 b], .agg #[.int .u16 c, .int .u16 d]] w fun e w' => ∃ v' : Value, e = .returned v' ∧ Row w' w.heap.size v' (canonOf (lessB (a, b) (c, d))) ∧ Below w.heap.size w w' := by
  by_cases h : max a c ≤ min b d
  · have hm := fun W => meet_yes a b c d W h
    obtain ⟨p, hp⟩ : ∃ p, p = max a c := ⟨_, rfl⟩
    obtain ⟨q, hq⟩ : ∃ q, q = min b d := ⟨_, rfl⟩
    have hE : Hid (_ = _) := less_yes a b c d p q hp hq (by omega) hb
    rw [← hp, ← hq] at hm h
    have hpa : a ≤ p := by omega
    have hqb : q ≤ b := by omega
    clear hp hq
    go_enter Try.func16, Try.ntmps16
    go_wp2_with (fail)
    refine (hm _).mono ?_
    rintro e w1 ⟨rfl, hb1⟩
    have c0 : w1.cell? ⟨w.heap.size, 0, none⟩ = some (.int .u16 a) := cell_on hb1 (cell_alloc (by simp [go_sem]))
    have c1 : w1.cell? ⟨w.heap.size, 1, none⟩ = some (.int .u16 b) := cell_on hb1 (cell_alloc (by simp [go_sem]))
    have hz1 := hb1.size
    simp at hz1
    have hbw : Hid (Below w.heap.size w w1) := by show Below _ _ _; (repeat (first | assumption | exact Below.refl _ _ | refine Below.drew ?_ | refine bel_drewN ?_ _ | refine Below.setCell ?_ (by first | omega | (simp; done) | (simp; omega)) _ | refine Below.alloc ?_ (by first | omega | (simp; done) | (simp; omega)) _ | refine bel_of ?_ (by assumption)))
    clear hm hb1
    have hlw : w.heap.size < w1.heap.size := by omega
    have hpi : (p : Int) < 65536 := by omega
    have hqi : (q : Int) < 65536 := by omega
    by_cases h1 : a < p
    · have h1' : (a : Int) < (p : Int) := by omega
      have hp1 : (1 : Int) ≤ (p : Int) := by omega
      have HP : Hid (((p : Int) - 1) = ((p - 1 : Nat) : Int)) := by show _ = _; omega
      by_cases h2 : q < b
      · have h2' : (q : Int) < (b : Int) := by omega
        have hE' := hE.out
        rw [if_pos h1, if_pos h2] at hE'
        have HE : Hid ([(a, p - 1)] ++ [(q + 1, b)] = canonOf (lessB (a, b) (c, d))) := hE'
        have HQ : Hid (((q : Int) + 1) = ((q + 1 : Nat) : Int)) := by show _ = _; omega
        clear hE hE'
        go_wp2_with (at_builtin; first | (refine wpList_append_rows rfl (.tmp 24) (.tmp 31) rfl w.heap.size (.slice none 0 0) [] rfl ((Row.nil _ _)) w.heap.size _ [(a, p - 1)] rfl (Row.one2 (w1.alloc (.cells #[.int .u16 p, .int .u16 q] 31)) w.heap.size a (p - 1) (by simp) rfl (by first | exact HP.out | omega) (by first | omega | (simp; omega))) (by first | omega | (simp; omega)) (by simp) ?_; intro v5 w5 hrow5 hgr5; have d0 : w5.cell? ⟨w.heap.size, 0, none⟩ = some (.int .u16 a) := hgr5.cell (cell_alloc (cell_alloc c0)) (by simp [Value.ownBlock]); have d1 : w5.cell? ⟨w.heap.size, 1, none⟩ = some (.int .u16 b) := hgr5.cell (cell_alloc (cell_alloc c1)) (by simp [Value.ownBlock]); have d2 : w5.cell? ⟨w1.heap.size, 1, none⟩ = some (.int .u16 q) := hgr5.cell (cell_alloc (by simp [go_sem])) (by simp [Value.ownBlock]); have hz5 := hgr5.size; simp at hz5; obtain ⟨vad, vcap, rfl, hvc, hvat⟩ := hrow5.form; have HR5 : Hid (Row w5 w.heap.size _ ([(a, p - 1)])) := hrow5; clear hrow5 c0 c1) | (refine wpList_append_rows rfl (.tmp 38) (.tmp 45) rfl w.heap.size _ [(a, p - 1)] rfl (HR5.out.alloc _) w.heap.size _ [(q + 1, b)] rfl (Row.one2 w5 w.heap.size (q + 1) b (by first | rfl | (simp; done)) (by first | exact HQ.out | omega) rfl (by first | omega | (simp; omega))) (by first | omega | (simp; omega)) (by simp) ?_; intro v6 w6 hrow6 hgr6))
        go_ret
        refine ⟨_, rfl, ?_, ?_⟩
        · rw [← HE.out]; exact hrow6
        · exact ((((hbw.out.alloc (by omega) _).alloc (by simp; omega) _).grown hgr5 (by simp; omega) (fun x hx => by cases hx)).alloc (by omega) _).grown hgr6 (by simp; omega) (fun x hx => (HR5.out.lt x hx).1)
      · have h2' : ¬ (q : Int) < (b : Int) := by omega
        have hE' := hE.out
        rw [if_pos h1, if_neg h2, List.append_nil] at hE'
        have HE : Hid ([(a, p - 1)] = canonOf (lessB (a, b) (c, d))) := hE'
        clear hE hE'
        go_wp2_with (at_builtin; (refine wpList_append_rows rfl (.tmp 24) (.tmp 31) rfl w.heap.size (.slice none 0 0) [] rfl ((Row.nil _ _)) w.heap.size _ [(a, p - 1)] rfl (Row.one2 (w1.alloc (.cells #[.int .u16 p, .int .u16 q] 31)) w.heap.size a (p - 1) (by simp) rfl (by first | exact HP.out | omega) (by first | omega | (simp; omega))) (by first | omega | (simp; omega)) (by simp) ?_; intro v5 w5 hrow5 hgr5; have d0 : w5.cell? ⟨w.heap.size, 0, none⟩ = some (.int .u16 a) := hgr5.cell (cell_alloc (cell_alloc c0)) (by simp [Value.ownBlock]); have d1 : w5.cell? ⟨w.heap.size, 1, none⟩ = some (.int .u16 b) := hgr5.cell (cell_alloc (cell_alloc c1)) (by simp [Value.ownBlock]); have d2 : w5.cell? ⟨w1.heap.size, 1, none⟩ = some (.int .u16 q) := hgr5.cell (cell_alloc (by simp [go_sem])) (by simp [Value.ownBlock]); have hz5 := hgr5.size; simp at hz5; obtain ⟨vad, vcap, rfl, hvc, hvat⟩ := hrow5.form; have HR5 : Hid (Row w5 w.heap.size _ ([(a, p - 1)])) := hrow5; clear hrow5 c0 c1))
        go_ret
        refine ⟨_, rfl, ?_, ?_⟩
        · rw [← HE.out]; exact HR5.out
        · exact (((hbw.out.alloc (by omega) _).alloc (by simp; omega) _).grown hgr5 (by simp; omega) (fun x hx => by cases hx))
    · have h1' : ¬ (a : Int) < (p : Int) := by omega
      by_cases h2 : q < b
      · have h2' : (q : Int) < (b : Int) := by omega
        have hE' := hE.out
        rw [if_neg h1, if_pos h2, List.nil_append] at hE'
        have HE : Hid ([(q + 1, b)] = canonOf (lessB (a, b) (c, d))) := hE'
        have HQ : Hid (((q : Int) + 1) = ((q + 1 : Nat) : Int)) := by show _ = _; omega
        clear hE hE'
        go_wp2_with (at_builtin; (refine wpList_append_rows rfl (.tmp 38) (.tmp 45) rfl w.heap.size _ [] rfl (Row.nil _ _) w.heap.size _ [(q + 1, b)] rfl (Row.one2 (w1.alloc (.cells #[.int .u16 p, .int .u16 q] 31)) w.heap.size (q + 1) b (by first | rfl | (simp; done)) (by first | exact HQ.out | omega) rfl (by first | omega | (simp; omega))) (by first | omega | (simp; omega)) (by simp) ?_; intro v6 w6 hrow6 hgr6))
        go_ret
        refine ⟨_, rfl, ?_, ?_⟩
        · rw [← HE.out]; exact hrow6
        · exact (((hbw.out.alloc (by omega) _).alloc (by simp; omega) _).grown hgr6 (by simp; omega) (fun x hx => by cases hx))
      · have h2' : ¬ (q : Int) < (b : Int) := by omega
        have hE' := hE.out
        rw [if_neg h1, if_neg h2, List.nil_append] at hE'
        have HE : Hid ([] = canonOf (lessB (a, b) (c, d))) := hE'
        clear hE hE'
        go_wp2
        go_ret
        refine ⟨_, rfl, ?_, hbw.out.alloc (by omega) _⟩
        rw [← HE.out]; exact Row.nil _ _
  · have hm := fun W => meet_no a b c d W h
    have hE : Hid (_ = _) := less_no a b c d h
    clear h
    go_enter Try.func16, Try.ntmps16
    go_wp2_with (fail)
    refine (hm _).mono ?_
    rintro e w1 ⟨rfl, hb1⟩
    have c0 : w1.cell? ⟨w.heap.size, 0, none⟩ = some (.int .u16 a) := cell_on hb1 (cell_alloc (by simp [go_sem]))
    have c1 : w1.cell? ⟨w.heap.size, 1, none⟩ = some (.int .u16 b) := cell_on hb1 (cell_alloc (by simp [go_sem]))
    have hz1 := hb1.size
    simp at hz1
    have hbw : Hid (Below w.heap.size w w1) := by show Below _ _ _; (repeat (first | assumption | exact Below.refl _ _ | refine Below.drew ?_ | refine bel_drewN ?_ _ | refine Below.setCell ?_ (by first | omega | (simp; done) | (simp; omega)) _ | refine Below.alloc ?_ (by first | omega | (simp; done) | (simp; omega)) _ | refine bel_of ?_ (by assumption)))
    clear hm hb1
    have hlw : w.heap.size < w1.heap.size := by omega
    go_wp2_with (fail)
    refine (unionS [(a, b)] _ _ (Row.one2 (w1.alloc (.cells #[.int .u16 0, .int .u16 0] 31)) 0 a b (by simp) rfl rfl (Nat.zero_le _)).src (by simp) (bd_one ha hb)).mono ?_
    rintro e w2 ⟨v2, rfl, hrow, hb2⟩
    go_wp2
    go_ret
    refine ⟨_, rfl, ?_, ((hbw.out.alloc (by omega) _).alloc (by simp; omega) _).trans (hb2.mono (by simp; omega))⟩
    rw [← hE.out]
    exact hrow.base (by simp; omega)
end Go.Proofs.Ythmekipdhlipbab
