/-
  What span's Check, Count, Meet and Less (of two that meet) hand back.
-/
import Derived.Test.YtebljklpkoheaaaGreatBxU
namespace Go.Proofs.YtebljklpkoheaaaGreat
open Go.RowKit
set_option linter.unusedVariables false
set_option linter.unusedSimpArgs false

theorem RowS.one2 (w : World) (b : Nat) {x y : Int} (a n : Nat) {B : Nat} (hB : B = w.heap.size) (hx : x = (a : Int)) (hy : y = (n : Int)) (hb : b ≤ w.heap.size) : RowS (w.alloc (.cells #[.int .u16 x, .int .u16 y] 27)) b (.slice (some ⟨B, 0, none⟩) 1 1) [(a, n)] := by
  subst hx hy hB; exact RowS.one w b (a, n) hb
theorem RowR.one2 (w : World) (b : Nat) {x y : Int} (a n : Nat) {B : Nat} (hB : B = w.heap.size) (hx : x = (a : Int)) (hy : y = (n : Int)) (hb : b ≤ w.heap.size) : RowR (w.alloc (.cells #[.int .u32 x, .int .u32 y] 39)) b (.slice (some ⟨B, 0, none⟩) 1 1) [(a, n)] := by
  subst hx hy hB; exact RowR.one w b (a, n) hb
theorem cutI_is (a b c d p q : Nat) (hp : p = max a c) (hq : q = min b d) : (if a < p then [(a, p - 1)] else []) ++ (if q < b then [(q + 1, b)] else []) = cutI (a, b) (c, d) := by
  subst hp hq; rfl
def chkS (a b : Nat) : Int := if b < a then 30 else 0
theorem checkS (a b : Nat) (w : World) :
    Calls Tryz.prog 30 #[.agg #[.int .u16 a, .int .u16 b]] w fun e w' => e = .returned (.int .i64 (chkS a b)) ∧ Below w.heap.size w w' := by
  by_cases h : b < a
  · rw [show chkS a b = 30 from if_pos h]
    have h' : (b : Int) < (a : Int) := by omega
    clear h
    go_enter Tryz.func30, Tryz.ntmps30
    go_wp2
    go_ret
    exact ⟨rfl, by (repeat (first | assumption | exact Below.refl _ _ | refine Below.drew ?_ | refine bel_drewN ?_ _ | refine Below.setCell ?_ (by first | omega | (simp; done) | (simp; omega)) _ | refine Below.alloc ?_ (by first | omega | (simp; done) | (simp; omega)) _ | refine bel_of ?_ (by assumption)))⟩
  · rw [show chkS a b = 0 from if_neg h]
    have h' : ¬ (b : Int) < (a : Int) := by omega
    clear h
    go_enter Tryz.func30, Tryz.ntmps30
    go_wp2
    go_ret
    exact ⟨rfl, by (repeat (first | assumption | exact Below.refl _ _ | refine Below.drew ?_ | refine bel_drewN ?_ _ | refine Below.setCell ?_ (by first | omega | (simp; done) | (simp; omega)) _ | refine Below.alloc ?_ (by first | omega | (simp; done) | (simp; omega)) _ | refine bel_of ?_ (by assumption)))⟩
def cntS (a b : Nat) : Nat := b + 1 - a
theorem countS (a b : Nat) (w : World) (ha : a < 65536) (hb : b < 65536) :
    Calls Tryz.prog 99 #[.agg #[.int .u16 a, .int .u16 b]] w fun e w' => e = .returned (.int .i64 (cntS a b : Int)) ∧ Below w.heap.size w w' := by
  by_cases h : b < a
  · have hk : chkS a b = 30 := if_pos h
    have hc : cntS a b = 0 := by unfold cntS; omega
    rw [hc]
    have H : Hid (chkS a b = 30) := hk
    clear h hk hc
    go_enter Tryz.func99, Tryz.ntmps99
    go_wp2_with (go_at_call 30; refine (checkS a b _).mono ?_; rw [H.out]; rintro e w1 ⟨rfl, hb1⟩)
    go_ret
    exact ⟨rfl, by (repeat (first | assumption | exact Below.refl _ _ | refine Below.drew ?_ | refine bel_drewN ?_ _ | refine Below.setCell ?_ (by first | omega | (simp; done) | (simp; omega)) _ | refine Below.alloc ?_ (by first | omega | (simp; done) | (simp; omega)) _ | refine bel_of ?_ (by assumption)))⟩
  · have hk : chkS a b = 0 := if_neg h
    have hc : (cntS a b : Int) = (b : Int) - (a : Int) + 1 := by unfold cntS; omega
    rw [hc]
    have H : Hid (chkS a b = 0) := hk
    have h' : (a : Int) ≤ (b : Int) := by omega
    clear h hk hc
    go_enter Tryz.func99, Tryz.ntmps99
    go_wp2_with (go_at_call 30; refine (checkS a b _).mono ?_; rw [H.out]; rintro e w1 ⟨rfl, hb1⟩; obtain ⟨hc1, hf1⟩ := bcell hb1; have hz1 := hb1.size; simp at hz1; have hl1 : w.heap.size < w1.heap.size := by omega)
    go_ret
    exact ⟨rfl, by (repeat (first | assumption | exact Below.refl _ _ | refine Below.drew ?_ | refine bel_drewN ?_ _ | refine Below.setCell ?_ (by first | omega | (simp; done) | (simp; omega)) _ | refine Below.alloc ?_ (by first | omega | (simp; done) | (simp; omega)) _ | refine bel_of ?_ (by assumption)))⟩
theorem meetS_yes (a b c d : Nat) (w : World) (h : max a c ≤ min b d) :
    Calls Tryz.prog 68 #[.agg #[.int .u16 a, .int .u16 b], .agg #[.int .u16 c, .int .u16 d]] w fun e w' => e = .returned (.tuple #[.agg #[.int .u16 (max a c : Nat), .int .u16 (min b d : Nat)], .bool true]) ∧ Below w.heap.size w w' := by
  by_cases h1 : a < c
  · rw [show max a c = c by omega] at h ⊢
    by_cases h2 : d < b
    · rw [show min b d = d by omega] at h ⊢
      have h3 : ¬ (d < c) := by omega
      clear h
      go_enter Tryz.func68, Tryz.ntmps68
      go_wp2
      exact bodyPost_ret (v := .tuple #[.agg #[.int .u16 c, .int .u16 d], .bool true]) (by simp [results, Tryz.results68, go_sem]) rfl ⟨rfl, by (repeat (first | assumption | exact Below.refl _ _ | refine Below.drew ?_ | refine bel_drewN ?_ _ | refine Below.setCell ?_ (by first | omega | (simp; done) | (simp; omega)) _ | refine Below.alloc ?_ (by first | omega | (simp; done) | (simp; omega)) _ | refine bel_of ?_ (by assumption)))⟩
    · rw [show min b d = b by omega] at h ⊢
      have h3 : ¬ (b < c) := by omega
      clear h
      go_enter Tryz.func68, Tryz.ntmps68
      go_wp2
      exact bodyPost_ret (v := .tuple #[.agg #[.int .u16 c, .int .u16 b], .bool true]) (by simp [results, Tryz.results68, go_sem]) rfl ⟨rfl, by (repeat (first | assumption | exact Below.refl _ _ | refine Below.drew ?_ | refine bel_drewN ?_ _ | refine Below.setCell ?_ (by first | omega | (simp; done) | (simp; omega)) _ | refine Below.alloc ?_ (by first | omega | (simp; done) | (simp; omega)) _ | refine bel_of ?_ (by assumption)))⟩
  · rw [show max a c = a by omega] at h ⊢
    by_cases h2 : d < b
    · rw [show min b d = d by omega] at h ⊢
      have h3 : ¬ (d < a) := by omega
      clear h
      go_enter Tryz.func68, Tryz.ntmps68
      go_wp2
      exact bodyPost_ret (v := .tuple #[.agg #[.int .u16 a, .int .u16 d], .bool true]) (by simp [results, Tryz.results68, go_sem]) rfl ⟨rfl, by (repeat (first | assumption | exact Below.refl _ _ | refine Below.drew ?_ | refine bel_drewN ?_ _ | refine Below.setCell ?_ (by first | omega | (simp; done) | (simp; omega)) _ | refine Below.alloc ?_ (by first | omega | (simp; done) | (simp; omega)) _ | refine bel_of ?_ (by assumption)))⟩
    · rw [show min b d = b by omega] at h ⊢
      have h3 : ¬ (b < a) := by omega
      clear h
      go_enter Tryz.func68, Tryz.ntmps68
      go_wp2
      exact bodyPost_ret (v := .tuple #[.agg #[.int .u16 a, .int .u16 b], .bool true]) (by simp [results, Tryz.results68, go_sem]) rfl ⟨rfl, by (repeat (first | assumption | exact Below.refl _ _ | refine Below.drew ?_ | refine bel_drewN ?_ _ | refine Below.setCell ?_ (by first | omega | (simp; done) | (simp; omega)) _ | refine Below.alloc ?_ (by first | omega | (simp; done) | (simp; omega)) _ | refine bel_of ?_ (by assumption)))⟩
theorem meetS_no (a b c d : Nat) (w : World) (h : ¬ max a c ≤ min b d) :
    Calls Tryz.prog 68 #[.agg #[.int .u16 a, .int .u16 b], .agg #[.int .u16 c, .int .u16 d]] w fun e w' => e = .returned (.tuple #[.agg #[.int .u16 0, .int .u16 0], .bool false]) ∧ Below w.heap.size w w' := by
  by_cases h1 : a < c
  · rw [show max a c = c by omega] at h
    by_cases h2 : d < b
    · rw [show min b d = d by omega] at h
      have h3 : d < c := by omega
      clear h
      go_enter Tryz.func68, Tryz.ntmps68
      go_wp2
      exact bodyPost_ret (v := .tuple #[.agg #[.int .u16 0, .int .u16 0], .bool false]) (by simp [results, Tryz.results68, go_sem]) rfl ⟨rfl, by (repeat (first | assumption | exact Below.refl _ _ | refine Below.drew ?_ | refine bel_drewN ?_ _ | refine Below.setCell ?_ (by first | omega | (simp; done) | (simp; omega)) _ | refine Below.alloc ?_ (by first | omega | (simp; done) | (simp; omega)) _ | refine bel_of ?_ (by assumption)))⟩
    · rw [show min b d = b by omega] at h
      have h3 : b < c := by omega
      clear h
      go_enter Tryz.func68, Tryz.ntmps68
      go_wp2
      exact bodyPost_ret (v := .tuple #[.agg #[.int .u16 0, .int .u16 0], .bool false]) (by simp [results, Tryz.results68, go_sem]) rfl ⟨rfl, by (repeat (first | assumption | exact Below.refl _ _ | refine Below.drew ?_ | refine bel_drewN ?_ _ | refine Below.setCell ?_ (by first | omega | (simp; done) | (simp; omega)) _ | refine Below.alloc ?_ (by first | omega | (simp; done) | (simp; omega)) _ | refine bel_of ?_ (by assumption)))⟩
  · rw [show max a c = a by omega] at h
    by_cases h2 : d < b
    · rw [show min b d = d by omega] at h
      have h3 : d < a := by omega
      clear h
      go_enter Tryz.func68, Tryz.ntmps68
      go_wp2
      exact bodyPost_ret (v := .tuple #[.agg #[.int .u16 0, .int .u16 0], .bool false]) (by simp [results, Tryz.results68, go_sem]) rfl ⟨rfl, by (repeat (first | assumption | exact Below.refl _ _ | refine Below.drew ?_ | refine bel_drewN ?_ _ | refine Below.setCell ?_ (by first | omega | (simp; done) | (simp; omega)) _ | refine Below.alloc ?_ (by first | omega | (simp; done) | (simp; omega)) _ | refine bel_of ?_ (by assumption)))⟩
    · rw [show min b d = b by omega] at h
      have h3 : b < a := by omega
      clear h
      go_enter Tryz.func68, Tryz.ntmps68
      go_wp2
      exact bodyPost_ret (v := .tuple #[.agg #[.int .u16 0, .int .u16 0], .bool false]) (by simp [results, Tryz.results68, go_sem]) rfl ⟨rfl, by (repeat (first | assumption | exact Below.refl _ _ | refine Below.drew ?_ | refine bel_drewN ?_ _ | refine Below.setCell ?_ (by first | omega | (simp; done) | (simp; omega)) _ | refine Below.alloc ?_ (by first | omega | (simp; done) | (simp; omega)) _ | refine bel_of ?_ (by assumption)))⟩
set_option maxHeartbeats 1000000 in
theorem lessS (a b c d : Nat) (w : World) (ha : a < 65536) (hb : b < 65536) (hc : c < 65536) (h : max a c ≤ min b d) :
    Calls Tryz.prog 104 #[.agg #[.int .u16 a, .int .u16 b], .agg #[.int .u16 c, .int .u16 d]] w fun e w' => ∃ v' : Value, e = .returned v' ∧ RowS w' w.heap.size v' (cutI (a, b) (c, d)) ∧ Below w.heap.size w w' := by
  · have hm := fun W => meetS_yes a b c d W h
    obtain ⟨p, hp⟩ : ∃ p, p = max a c := ⟨_, rfl⟩
    obtain ⟨q, hq⟩ : ∃ q, q = min b d := ⟨_, rfl⟩
    have hE : Hid (_ = _) := cutI_is a b c d p q hp hq
    rw [← hp, ← hq] at hm h
    have hpa : a ≤ p := by omega
    have hqb : q ≤ b := by omega
    clear hp hq
    go_enter Tryz.func104, Tryz.ntmps104
    go_wp2_with (fail)
    refine (hm _).mono ?_
    rintro e w1 ⟨rfl, hb1⟩
    have c0 : w1.cell? ⟨w.heap.size, 0, none⟩ = some (.int .u16 a) := cell_on hb1 (cell_alloc (by simp [go_sem]))
    have c1 : w1.cell? ⟨w.heap.size, 1, none⟩ = some (.int .u16 b) := cell_on hb1 (cell_alloc (by simp [go_sem]))
    have hz1 := hb1.size
    simp at hz1
    have hbw : Hid (Below w.heap.size w w1) := by show Below _ _ _; (repeat (first | assumption | exact Below.refl _ _ | refine Below.drew ?_ | refine bel_drewN ?_ _ | refine Below.setCell ?_ (by first | omega | (simp; done) | (simp; omega)) _ | refine Below.alloc ?_ (by first | omega | (simp; done) | (simp; omega)) _ | refine bel_of ?_ (by assumption)))
    clear hm hb1
    have hlw : w.heap.size < w1.heap.size := by omega
    have hpi : (p : Int) < 65536 := by omega
    have hqi : (q : Int) < 65536 := by omega
    by_cases h1 : a < p
    · have h1' : (a : Int) < (p : Int) := by omega
      have hp1 : (1 : Int) ≤ (p : Int) := by omega
      have HP : Hid (((p : Int) - 1) = ((p - 1 : Nat) : Int)) := by show _ = _; omega
      by_cases h2 : q < b
      · have h2' : (q : Int) < (b : Int) := by omega
        have hE' := hE.out
        rw [if_pos h1, if_pos h2] at hE'
        have HE : Hid ([(a, p - 1)] ++ [(q + 1, b)] = cutI (a, b) (c, d)) := hE'
        have HQ : Hid (((q : Int) + 1) = ((q + 1 : Nat) : Int)) := by show _ = _; omega
        clear hE hE'
        go_wp2_with (at_builtin; first | (refine wpList_appendS rfl (.tmp 24) (.tmp 31) rfl w.heap.size (.slice none 0 0) [] rfl ((RowS.nil _ _)) w.heap.size _ [(a, p - 1)] rfl (RowS.one2 (w1.alloc (.cells #[.int .u16 p, .int .u16 q] 27)) w.heap.size a (p - 1) (by simp) rfl (by first | exact HP.out | omega) (by first | omega | (simp; omega))) (by first | omega | (simp; omega)) (by simp) ?_; intro v5 w5 hrow5 hgr5; have d0 : w5.cell? ⟨w.heap.size, 0, none⟩ = some (.int .u16 a) := hgr5.cell (cell_alloc (cell_alloc c0)) (by simp [Value.ownBlock]); have d1 : w5.cell? ⟨w.heap.size, 1, none⟩ = some (.int .u16 b) := hgr5.cell (cell_alloc (cell_alloc c1)) (by simp [Value.ownBlock]); have d2 : w5.cell? ⟨w1.heap.size, 1, none⟩ = some (.int .u16 q) := hgr5.cell (cell_alloc (by simp [go_sem])) (by simp [Value.ownBlock]); have hz5 := hgr5.size; simp at hz5; obtain ⟨vad, vcap, rfl, hvc, hvat⟩ := hrow5.form; have HR5 : Hid (RowS w5 w.heap.size _ ([(a, p - 1)])) := hrow5; clear hrow5 c0 c1) | (refine wpList_appendS rfl (.tmp 38) (.tmp 45) rfl w.heap.size _ [(a, p - 1)] rfl (HR5.out.alloc _) w.heap.size _ [(q + 1, b)] rfl (RowS.one2 w5 w.heap.size (q + 1) b (by first | rfl | (simp; done)) (by first | exact HQ.out | omega) rfl (by first | omega | (simp; omega))) (by first | omega | (simp; omega)) (by simp) ?_; intro v6 w6 hrow6 hgr6))
        go_ret
        refine ⟨_, rfl, ?_, ?_⟩
        · rw [← HE.out]; exact hrow6
        · exact ((((hbw.out.alloc (by omega) _).alloc (by simp; omega) _).grown hgr5 (by simp; omega) (fun x hx => by cases hx)).alloc (by omega) _).grown hgr6 (by simp; omega) (fun x hx => (HR5.out.lt x hx).1)
      · have h2' : ¬ (q : Int) < (b : Int) := by omega
        have hE' := hE.out
        rw [if_pos h1, if_neg h2, List.append_nil] at hE'
        have HE : Hid ([(a, p - 1)] = cutI (a, b) (c, d)) := hE'
        clear hE hE'
        go_wp2_with (at_builtin; (refine wpList_appendS rfl (.tmp 24) (.tmp 31) rfl w.heap.size (.slice none 0 0) [] rfl ((RowS.nil _ _)) w.heap.size _ [(a, p - 1)] rfl (RowS.one2 (w1.alloc (.cells #[.int .u16 p, .int .u16 q] 27)) w.heap.size a (p - 1) (by simp) rfl (by first | exact HP.out | omega) (by first | omega | (simp; omega))) (by first | omega | (simp; omega)) (by simp) ?_; intro v5 w5 hrow5 hgr5; have d0 : w5.cell? ⟨w.heap.size, 0, none⟩ = some (.int .u16 a) := hgr5.cell (cell_alloc (cell_alloc c0)) (by simp [Value.ownBlock]); have d1 : w5.cell? ⟨w.heap.size, 1, none⟩ = some (.int .u16 b) := hgr5.cell (cell_alloc (cell_alloc c1)) (by simp [Value.ownBlock]); have d2 : w5.cell? ⟨w1.heap.size, 1, none⟩ = some (.int .u16 q) := hgr5.cell (cell_alloc (by simp [go_sem])) (by simp [Value.ownBlock]); have hz5 := hgr5.size; simp at hz5; obtain ⟨vad, vcap, rfl, hvc, hvat⟩ := hrow5.form; have HR5 : Hid (RowS w5 w.heap.size _ ([(a, p - 1)])) := hrow5; clear hrow5 c0 c1))
        go_ret
        refine ⟨_, rfl, ?_, ?_⟩
        · rw [← HE.out]; exact HR5.out
        · exact (((hbw.out.alloc (by omega) _).alloc (by simp; omega) _).grown hgr5 (by simp; omega) (fun x hx => by cases hx))
    · have h1' : ¬ (a : Int) < (p : Int) := by omega
      by_cases h2 : q < b
      · have h2' : (q : Int) < (b : Int) := by omega
        have hE' := hE.out
        rw [if_neg h1, if_pos h2, List.nil_append] at hE'
        have HE : Hid ([(q + 1, b)] = cutI (a, b) (c, d)) := hE'
        have HQ : Hid (((q : Int) + 1) = ((q + 1 : Nat) : Int)) := by show _ = _; omega
        clear hE hE'
        go_wp2_with (at_builtin; (refine wpList_appendS rfl (.tmp 38) (.tmp 45) rfl w.heap.size _ [] rfl (RowS.nil _ _) w.heap.size _ [(q + 1, b)] rfl (RowS.one2 (w1.alloc (.cells #[.int .u16 p, .int .u16 q] 27)) w.heap.size (q + 1) b (by first | rfl | (simp; done)) (by first | exact HQ.out | omega) rfl (by first | omega | (simp; omega))) (by first | omega | (simp; omega)) (by simp) ?_; intro v6 w6 hrow6 hgr6))
        go_ret
        refine ⟨_, rfl, ?_, ?_⟩
        · rw [← HE.out]; exact hrow6
        · exact (((hbw.out.alloc (by omega) _).alloc (by simp; omega) _).grown hgr6 (by simp; omega) (fun x hx => by cases hx))
      · have h2' : ¬ (q : Int) < (b : Int) := by omega
        have hE' := hE.out
        rw [if_neg h1, if_neg h2, List.nil_append] at hE'
        have HE : Hid ([] = cutI (a, b) (c, d)) := hE'
        clear hE hE'
        go_wp2
        go_ret
        refine ⟨_, rfl, ?_, hbw.out.alloc (by omega) _⟩
        rw [← HE.out]; exact RowS.nil _ _
end Go.Proofs.YtebljklpkoheaaaGreat
