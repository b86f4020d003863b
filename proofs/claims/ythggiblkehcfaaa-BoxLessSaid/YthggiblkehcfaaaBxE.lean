/-
  lessRun; the closures that are handed to each; each, for runs, spans and masks. Written by tools/mkBxE.py.
-/
import Derived.Test.YthggiblkehcfaaaBxP
import Derived.Test.YthggiblkehcfaaaMkL
namespace Go.Proofs.Ythggiblkehcfaaa
open Go.RowKit
set_option linter.unusedVariables false
set_option linter.unusedSimpArgs false

/-- What a call that writes block B, and makes memory, leaves as it was. -/
structure K1 (B : Nat) (w w' : World) : Prop where
  os : w'.os = w.os
  tape : w'.tape = w.tape
  output : w'.output = w.output
  size : w.heap.size ≤ w'.heap.size
  block : ∀ k, k < w.heap.size → k ≠ B → w'.heap[k]? = w.heap[k]?
theorem K1.refl (B : Nat) (w : World) : K1 B w w := ⟨rfl, rfl, rfl, Nat.le_refl _, fun _ _ _ => rfl⟩
theorem K1.trans {B : Nat} {u v w : World} (h : K1 B u v) (g : K1 B v w) : K1 B u w :=
  ⟨g.os.trans h.os, g.tape.trans h.tape, g.output.trans h.output, Nat.le_trans h.size g.size, fun k hk hn => (g.block k (Nat.lt_of_lt_of_le hk h.size) hn).trans (h.block k hk hn)⟩
theorem K1.of_below {B : Nat} {u v : World} (h : Below u.heap.size u v) : K1 B u v := ⟨h.os, h.tape, h.output, h.size, fun k hk _ => h.block k hk⟩
theorem K1.of_only {B : Nat} {u v : World} (h : Only B u v) : K1 B u v := ⟨h.os, h.tape, h.output, Nat.le_of_eq h.size.symm, fun k _ hn => h.block k hn⟩
theorem K1.alloc {B : Nat} (u : World) (o : Obj) : K1 B u (u.alloc o) := K1.of_below ((Below.refl _ _).alloc (Nat.le_refl _) o)
theorem K1.below {B b : Nat} {u v : World} (h : K1 B u v) (hb : b ≤ B) (hB : B ≤ u.heap.size) : Below b u v := ⟨h.os, h.tape, h.output, h.size, fun k hk => h.block k (by omega) (by omega)⟩
theorem RowX.k1 {B b : Nat} {u w : World} {v : Value} {l : List Bx} (h : RowX u b v l) (hk : K1 B u w) (hb : B < b) : RowX w b v l := by
  refine ⟨h.1, ?_⟩
  rcases h.2 with h2 | ⟨g, cap, cur, hv, hg, hh, r⟩
  · exact .inl h2
  · exact .inr ⟨g, cap, cur, hv, hg, by rw [hk.block g (blk_lt hh) (by omega)]; exact hh, r⟩
theorem K1.grown {B b : Nat} {u v w : World} {x : Value} {l : List Bx} (h : K1 B u v) (hr : RowX v b x l) (hg : v.grownBy w x.ownBlock) (hb : u.heap.size ≤ b) : K1 B u w := by
  refine ⟨hg.os.trans h.os, hg.tape.trans h.tape, hg.output.trans h.output, Nat.le_trans h.size hg.size, fun k hk hn => ?_⟩
  rw [hg.block k (Nat.lt_of_lt_of_le hk h.size) (fun e => by have := (hr.lt k e.symm).1; omega)]
  exact h.block k hk hn
theorem k1_cell {B : Nat} {u w : World} (h : K1 B u w) {p : Addr} {v : Value} (hc : u.cell? p = some v) (hn : p.block ≠ B) : w.cell? p = some v := by
  have hl := World.block_lt_of_cell? u p hc
  unfold World.cell? at *
  rw [h.block _ hl hn]; exact hc
theorem cutR_is (a b c d : Nat) : (if a < c then [(a, c - 1)] else []) ++ (if d < b then [(d + 1, b)] else []) = cutI (a, b) (c, d) := by
  unfold cutI belI aboI meetI
  simp only
  congr 1
  · by_cases h : a < c
    · rw [if_pos h, if_pos (by omega), show max a c = c by omega]
    · rw [if_neg h, if_neg (by omega)]
  · by_cases h : d < b
    · rw [if_pos h, if_pos (by omega), show min b d = d by omega]
    · rw [if_neg h, if_neg (by omega)]
set_option maxHeartbeats 1000000 in
theorem lessR (a b c d : Nat) (w : World) (ha : a < 4294967296) (hb : b < 4294967296) (hc : c < 4294967296) :
    Calls Try.prog 53 #[.agg #[.int .u32 a, .int .u32 b], .agg #[.int .u32 c, .int .u32 d]] w fun e w' => ∃ v' : Value, e = .returned v' ∧ RowR w' w.heap.size v' (cutI (a, b) (c, d)) ∧ Below w.heap.size w w' := by
  have hE : Hid (_ = _) := cutR_is a b c d
  by_cases h1 : a < c
  · have h1' : (a : Int) < (c : Int) := by omega
    have hp1 : (1 : Int) ≤ (c : Int) := by omega
    have hci : (c : Int) < 4294967296 := by omega
    have HP : Hid (((c : Int) - 1) = ((c - 1 : Nat) : Int)) := by show _ = _; omega
    by_cases h2 : d < b
    · have h2' : (d : Int) < (b : Int) := by omega
      have hE' := hE.out
      rw [if_pos h1, if_pos h2] at hE'
      have HE : Hid ([(a, c - 1)] ++ [(d + 1, b)] = cutI (a, b) (c, d)) := hE'
      have HQ : Hid (((d : Int) + 1) = ((d + 1 : Nat) : Int)) := by show _ = _; omega
      have hdi : (d : Int) + 1 < 4294967296 := by omega
      clear hE hE' h1 h2
      go_enter Try.func53, Try.ntmps53
      go_wp2_with (at_builtin; first | (refine wpList_appendR rfl (.tmp 11) (.tmp 18) rfl w.heap.size (.slice none 0 0) [] rfl (RowR.nil _ _) w.heap.size _ [(a, c - 1)] rfl (RowR.one2 ((w.alloc (.cells #[.int .u32 (a : Int), .int .u32 (b : Int)] 27)).alloc (.cells #[.int .u32 (c : Int), .int .u32 (d : Int)] 27)) w.heap.size a (c - 1) (by simp) rfl (by first | exact HP.out | omega) (by first | omega | (simp; omega))) (by first | omega | (simp; omega)) (by simp) ?_; intro v5 w5 hrow5 hgr5; have d0 : w5.cell? ⟨w.heap.size, 0, none⟩ = some (.int .u32 a) := hgr5.cell (cell_alloc (by simp [go_sem])) (by simp [Value.ownBlock]); have d1 : w5.cell? ⟨w.heap.size, 1, none⟩ = some (.int .u32 b) := hgr5.cell (cell_alloc (by simp [go_sem])) (by simp [Value.ownBlock]); have d2 : w5.cell? ⟨w.heap.size + 1, 0, none⟩ = some (.int .u32 c) := hgr5.cell (cell_alloc (by simp [go_sem])) (by simp [Value.ownBlock]); have d3 : w5.cell? ⟨w.heap.size + 1, 1, none⟩ = some (.int .u32 d) := hgr5.cell (cell_alloc (by simp [go_sem])) (by simp [Value.ownBlock]); have hz5 := hgr5.size; simp at hz5; obtain ⟨vad, vcap, rfl, hvc, hvat⟩ := hrow5.form; have HR5 : Hid (RowR w5 w.heap.size _ ([(a, c - 1)])) := hrow5; have HB5 : Hid (Below w.heap.size w w5) := ((((Below.refl _ _).alloc (Nat.le_refl _) _).alloc (by simp) _).alloc (by simp; omega) _).grown hgr5 (by simp; omega) (fun x hx => by cases hx); clear hrow5 hgr5 hvat) | (refine wpList_appendR rfl (.tmp 25) (.tmp 32) rfl w.heap.size _ [(a, c - 1)] rfl (HR5.out.alloc _) w.heap.size _ [(d + 1, b)] rfl (RowR.one2 w5 w.heap.size (d + 1) b (by first | rfl | (simp; done)) (by first | exact HQ.out | omega) rfl (by first | omega | (simp; omega))) (by first | omega | (simp; omega)) (by simp) ?_; intro v6 w6 hrow6 hgr6))
      go_ret
      exact ⟨_, rfl, by rw [← HE.out]; exact hrow6, (HB5.out.alloc (by omega) _).grown hgr6 (by simp; omega) (fun x hx => (HR5.out.lt x hx).1)⟩
    · have h2' : ¬ (d : Int) < (b : Int) := by omega
      have hE' := hE.out
      rw [if_pos h1, if_neg h2, List.append_nil] at hE'
      have HE : Hid ([(a, c - 1)] = cutI (a, b) (c, d)) := hE'
      clear hE hE' h1 h2
      go_enter Try.func53, Try.ntmps53
      go_wp2_with (at_builtin; (refine wpList_appendR rfl (.tmp 11) (.tmp 18) rfl w.heap.size (.slice none 0 0) [] rfl (RowR.nil _ _) w.heap.size _ [(a, c - 1)] rfl (RowR.one2 ((w.alloc (.cells #[.int .u32 (a : Int), .int .u32 (b : Int)] 27)).alloc (.cells #[.int .u32 (c : Int), .int .u32 (d : Int)] 27)) w.heap.size a (c - 1) (by simp) rfl (by first | exact HP.out | omega) (by first | omega | (simp; omega))) (by first | omega | (simp; omega)) (by simp) ?_; intro v5 w5 hrow5 hgr5; have d0 : w5.cell? ⟨w.heap.size, 0, none⟩ = some (.int .u32 a) := hgr5.cell (cell_alloc (by simp [go_sem])) (by simp [Value.ownBlock]); have d1 : w5.cell? ⟨w.heap.size, 1, none⟩ = some (.int .u32 b) := hgr5.cell (cell_alloc (by simp [go_sem])) (by simp [Value.ownBlock]); have d2 : w5.cell? ⟨w.heap.size + 1, 0, none⟩ = some (.int .u32 c) := hgr5.cell (cell_alloc (by simp [go_sem])) (by simp [Value.ownBlock]); have d3 : w5.cell? ⟨w.heap.size + 1, 1, none⟩ = some (.int .u32 d) := hgr5.cell (cell_alloc (by simp [go_sem])) (by simp [Value.ownBlock]); have hz5 := hgr5.size; simp at hz5; obtain ⟨vad, vcap, rfl, hvc, hvat⟩ := hrow5.form; have HR5 : Hid (RowR w5 w.heap.size _ ([(a, c - 1)])) := hrow5; have HB5 : Hid (Below w.heap.size w w5) := ((((Below.refl _ _).alloc (Nat.le_refl _) _).alloc (by simp) _).alloc (by simp; omega) _).grown hgr5 (by simp; omega) (fun x hx => by cases hx); clear hrow5 hgr5 hvat))
      go_ret
      exact ⟨_, rfl, by rw [← HE.out]; exact HR5.out, HB5.out⟩

  · have h1' : ¬ (a : Int) < (c : Int) := by omega
    by_cases h2 : d < b
    · have h2' : (d : Int) < (b : Int) := by omega
      have hE' := hE.out
      rw [if_neg h1, if_pos h2, List.nil_append] at hE'
      have HE : Hid ([(d + 1, b)] = cutI (a, b) (c, d)) := hE'
      have HQ : Hid (((d : Int) + 1) = ((d + 1 : Nat) : Int)) := by show _ = _; omega
      have hdi : (d : Int) + 1 < 4294967296 := by omega
      clear hE hE' h1 h2
      go_enter Try.func53, Try.ntmps53
      go_wp2_with (at_builtin; (refine wpList_appendR rfl (.tmp 25) (.tmp 32) rfl w.heap.size _ [] rfl (RowR.nil _ _) w.heap.size _ [(d + 1, b)] rfl (RowR.one2 ((w.alloc (.cells #[.int .u32 (a : Int), .int .u32 (b : Int)] 27)).alloc (.cells #[.int .u32 (c : Int), .int .u32 (d : Int)] 27)) w.heap.size (d + 1) b (by first | rfl | (simp; done)) (by first | exact HQ.out | omega) rfl (by first | omega | (simp; omega))) (by first | omega | (simp; omega)) (by simp) ?_; intro v6 w6 hrow6 hgr6))
      go_ret
      exact ⟨_, rfl, by rw [← HE.out]; exact hrow6, ((((Below.refl _ _).alloc (Nat.le_refl _) _).alloc (by simp) _).alloc (by simp; omega) _).grown hgr6 (by simp; omega) (fun x hx => by cases hx)⟩
    · have h2' : ¬ (d : Int) < (b : Int) := by omega
      have hE' := hE.out
      rw [if_neg h1, if_neg h2, List.nil_append] at hE'
      have HE : Hid ([] = cutI (a, b) (c, d)) := hE'
      clear hE hE' h1 h2
      go_enter Try.func53, Try.ntmps53
      go_wp2
      go_ret
      exact ⟨_, rfl, by rw [← HE.out]; exact RowR.nil _ _, by (repeat (first | assumption | exact Below.refl _ _ | refine Below.drew ?_ | refine bel_drewN ?_ _ | refine Below.setCell ?_ (by first | omega | (simp; done) | (simp; omega)) _ | refine Below.alloc ?_ (by first | omega | (simp; done) | (simp; omega)) _ | refine bel_of ?_ (by assumption)))⟩
abbrev putA (Z : Bx) (s : Nat × Nat) : Bx := ⟨s, Z.b, Z.c, Z.d, Z.m⟩
theorem src51 (B : Nat) (s : Nat × Nat) (Z : Bx) (W : World) (h : W.heap[B]? = some (.cells #[.int .u32 (Z.a.1 : Int), .int .u32 (Z.a.2 : Int), .int .u32 (Z.b.1 : Int), .int .u32 (Z.b.2 : Int), .int .u16 (Z.c.1 : Int), .int .u16 (Z.c.2 : Int), .int .u16 (Z.d.1 : Int), .int .u16 (Z.d.2 : Int), .int .u8 (Z.m.1 : Int), .int .u8 (Z.m.2 : Int)] 33)) :
    Calls Try.prog 54 #[.agg #[.int .u32 (s.1 : Int), .int .u32 (s.2 : Int)], .pointer (some ⟨B, 0, none⟩)] W fun e W' => e = .returned (.agg #[.int .u32 ((putA Z s).a.1 : Int), .int .u32 ((putA Z s).a.2 : Int), .int .u32 ((putA Z s).b.1 : Int), .int .u32 ((putA Z s).b.2 : Int), .int .u16 ((putA Z s).c.1 : Int), .int .u16 ((putA Z s).c.2 : Int), .int .u16 ((putA Z s).d.1 : Int), .int .u16 ((putA Z s).d.2 : Int), .int .u8 ((putA Z s).m.1 : Int), .int .u8 ((putA Z s).m.2 : Int)]) ∧ W'.heap[B]? = some (.cells #[.int .u32 ((putA Z s).a.1 : Int), .int .u32 ((putA Z s).a.2 : Int), .int .u32 ((putA Z s).b.1 : Int), .int .u32 ((putA Z s).b.2 : Int), .int .u16 ((putA Z s).c.1 : Int), .int .u16 ((putA Z s).c.2 : Int), .int .u16 ((putA Z s).d.1 : Int), .int .u16 ((putA Z s).d.2 : Int), .int .u8 ((putA Z s).m.1 : Int), .int .u8 ((putA Z s).m.2 : Int)] 33) ∧ K1 B W W' := by
  have hlt := blk_lt h
  have n1 : ¬ B = W.heap.size := by omega
  have n2 : ¬ B = W.heap.size + 1 := by omega
  go_enter Try.func54, Try.ntmps54
  go_wp2_with (first | (refine wpList_store_blk rfl 27 (.tmp 5) (.tmp 4) rfl B 0 #[.int .u32 (s.1 : Int), .int .u32 (s.2 : Int)] #[.int .u32 (s.1 : Int), .int .u32 (s.2 : Int), .int .u32 (Z.b.1 : Int), .int .u32 (Z.b.2 : Int), .int .u16 (Z.c.1 : Int), .int .u16 (Z.c.2 : Int), .int .u16 (Z.d.1 : Int), .int .u16 (Z.d.2 : Int), .int .u8 (Z.m.1 : Int), .int .u8 (Z.m.2 : Int)] rfl rfl 33 _ (blk_alloc (blk_alloc h _) _) (Nat.le_of_ble_eq_true rfl) rfl (by kernel_rfl) rfl ?_; intro w3 h3 ho3; have hR3 : w3.heap[W.heap.size + 1]? = some (.cells #[.int .u32 0, .int .u32 0, .int .u32 0, .int .u32 0, .int .u16 0, .int .u16 0, .int .u16 0, .int .u16 0, .int .u8 0, .int .u8 0] 33) := (by rw [ho3.block _ (by omega)]; simpa using blk_new (W.alloc (.cells #[.int .u32 (s.1 : Int), .int .u32 (s.2 : Int)] 27)) (.cells #[.int .u32 0, .int .u32 0, .int .u32 0, .int .u32 0, .int .u16 0, .int .u16 0, .int .u16 0, .int .u16 0, .int .u8 0, .int .u8 0] 33)); obtain ⟨e0, e1, e2, e3, e4, e5, e6, e7, e8, e9⟩ := blk10 h3) | (refine wpList_store_blk rfl 33 (.tmp 3) (.tmp 6) rfl (W.heap.size + 1) 0 #[.int .u32 (s.1 : Int), .int .u32 (s.2 : Int), .int .u32 (Z.b.1 : Int), .int .u32 (Z.b.2 : Int), .int .u16 (Z.c.1 : Int), .int .u16 (Z.c.2 : Int), .int .u16 (Z.d.1 : Int), .int .u16 (Z.d.2 : Int), .int .u8 (Z.m.1 : Int), .int .u8 (Z.m.2 : Int)] #[.int .u32 (s.1 : Int), .int .u32 (s.2 : Int), .int .u32 (Z.b.1 : Int), .int .u32 (Z.b.2 : Int), .int .u16 (Z.c.1 : Int), .int .u16 (Z.c.2 : Int), .int .u16 (Z.d.1 : Int), .int .u16 (Z.d.2 : Int), .int .u8 (Z.m.1 : Int), .int .u8 (Z.m.2 : Int)] rfl rfl 33 _ hR3 (Nat.le_of_ble_eq_true rfl) rfl (by kernel_rfl) rfl ?_; intro w4 h4 ho4))
  refine bodyPost_ret (results_blk Try.results54 rfl h4 Try.underlying33 rfl (by kernel_rfl)) rfl ⟨rfl, by rw [ho4.block _ n2]; exact h3, ?_⟩
  refine ⟨ho4.os.trans ho3.os, ho4.tape.trans ho3.tape, ho4.output.trans ho3.output, by rw [ho4.size, ho3.size]; simp; omega, fun k hk hn => ?_⟩
  rw [ho4.block k (by omega), ho3.block k hn, Below.heap_alloc _ _ _ (by simp; omega), Below.heap_alloc _ _ _ hk]
abbrev putB (Z : Bx) (s : Nat × Nat) : Bx := ⟨Z.a, s, Z.c, Z.d, Z.m⟩
theorem dst51 (B : Nat) (s : Nat × Nat) (Z : Bx) (W : World) (h : W.heap[B]? = some (.cells #[.int .u32 (Z.a.1 : Int), .int .u32 (Z.a.2 : Int), .int .u32 (Z.b.1 : Int), .int .u32 (Z.b.2 : Int), .int .u16 (Z.c.1 : Int), .int .u16 (Z.c.2 : Int), .int .u16 (Z.d.1 : Int), .int .u16 (Z.d.2 : Int), .int .u8 (Z.m.1 : Int), .int .u8 (Z.m.2 : Int)] 33)) :
    Calls Try.prog 60 #[.agg #[.int .u32 (s.1 : Int), .int .u32 (s.2 : Int)], .pointer (some ⟨B, 0, none⟩)] W fun e W' => e = .returned (.agg #[.int .u32 ((putB Z s).a.1 : Int), .int .u32 ((putB Z s).a.2 : Int), .int .u32 ((putB Z s).b.1 : Int), .int .u32 ((putB Z s).b.2 : Int), .int .u16 ((putB Z s).c.1 : Int), .int .u16 ((putB Z s).c.2 : Int), .int .u16 ((putB Z s).d.1 : Int), .int .u16 ((putB Z s).d.2 : Int), .int .u8 ((putB Z s).m.1 : Int), .int .u8 ((putB Z s).m.2 : Int)]) ∧ W'.heap[B]? = some (.cells #[.int .u32 ((putB Z s).a.1 : Int), .int .u32 ((putB Z s).a.2 : Int), .int .u32 ((putB Z s).b.1 : Int), .int .u32 ((putB Z s).b.2 : Int), .int .u16 ((putB Z s).c.1 : Int), .int .u16 ((putB Z s).c.2 : Int), .int .u16 ((putB Z s).d.1 : Int), .int .u16 ((putB Z s).d.2 : Int), .int .u8 ((putB Z s).m.1 : Int), .int .u8 ((putB Z s).m.2 : Int)] 33) ∧ K1 B W W' := by
  have hlt := blk_lt h
  have n1 : ¬ B = W.heap.size := by omega
  have n2 : ¬ B = W.heap.size + 1 := by omega
  go_enter Try.func60, Try.ntmps60
  go_wp2_with (first | (refine wpList_store_blk rfl 27 (.tmp 5) (.tmp 4) rfl B 2 #[.int .u32 (s.1 : Int), .int .u32 (s.2 : Int)] #[.int .u32 (Z.a.1 : Int), .int .u32 (Z.a.2 : Int), .int .u32 (s.1 : Int), .int .u32 (s.2 : Int), .int .u16 (Z.c.1 : Int), .int .u16 (Z.c.2 : Int), .int .u16 (Z.d.1 : Int), .int .u16 (Z.d.2 : Int), .int .u8 (Z.m.1 : Int), .int .u8 (Z.m.2 : Int)] rfl rfl 33 _ (blk_alloc (blk_alloc h _) _) (Nat.le_of_ble_eq_true rfl) rfl (by kernel_rfl) rfl ?_; intro w3 h3 ho3; have hR3 : w3.heap[W.heap.size + 1]? = some (.cells #[.int .u32 0, .int .u32 0, .int .u32 0, .int .u32 0, .int .u16 0, .int .u16 0, .int .u16 0, .int .u16 0, .int .u8 0, .int .u8 0] 33) := (by rw [ho3.block _ (by omega)]; simpa using blk_new (W.alloc (.cells #[.int .u32 (s.1 : Int), .int .u32 (s.2 : Int)] 27)) (.cells #[.int .u32 0, .int .u32 0, .int .u32 0, .int .u32 0, .int .u16 0, .int .u16 0, .int .u16 0, .int .u16 0, .int .u8 0, .int .u8 0] 33)); obtain ⟨e0, e1, e2, e3, e4, e5, e6, e7, e8, e9⟩ := blk10 h3) | (refine wpList_store_blk rfl 33 (.tmp 3) (.tmp 6) rfl (W.heap.size + 1) 0 #[.int .u32 (Z.a.1 : Int), .int .u32 (Z.a.2 : Int), .int .u32 (s.1 : Int), .int .u32 (s.2 : Int), .int .u16 (Z.c.1 : Int), .int .u16 (Z.c.2 : Int), .int .u16 (Z.d.1 : Int), .int .u16 (Z.d.2 : Int), .int .u8 (Z.m.1 : Int), .int .u8 (Z.m.2 : Int)] #[.int .u32 (Z.a.1 : Int), .int .u32 (Z.a.2 : Int), .int .u32 (s.1 : Int), .int .u32 (s.2 : Int), .int .u16 (Z.c.1 : Int), .int .u16 (Z.c.2 : Int), .int .u16 (Z.d.1 : Int), .int .u16 (Z.d.2 : Int), .int .u8 (Z.m.1 : Int), .int .u8 (Z.m.2 : Int)] rfl rfl 33 _ hR3 (Nat.le_of_ble_eq_true rfl) rfl (by kernel_rfl) rfl ?_; intro w4 h4 ho4))
  refine bodyPost_ret (results_blk Try.results60 rfl h4 Try.underlying33 rfl (by kernel_rfl)) rfl ⟨rfl, by rw [ho4.block _ n2]; exact h3, ?_⟩
  refine ⟨ho4.os.trans ho3.os, ho4.tape.trans ho3.tape, ho4.output.trans ho3.output, by rw [ho4.size, ho3.size]; simp; omega, fun k hk hn => ?_⟩
  rw [ho4.block k (by omega), ho3.block k hn, Below.heap_alloc _ _ _ (by simp; omega), Below.heap_alloc _ _ _ hk]
abbrev putC (Z : Bx) (s : Nat × Nat) : Bx := ⟨Z.a, Z.b, s, Z.d, Z.m⟩
theorem sport51 (B : Nat) (s : Nat × Nat) (Z : Bx) (W : World) (h : W.heap[B]? = some (.cells #[.int .u32 (Z.a.1 : Int), .int .u32 (Z.a.2 : Int), .int .u32 (Z.b.1 : Int), .int .u32 (Z.b.2 : Int), .int .u16 (Z.c.1 : Int), .int .u16 (Z.c.2 : Int), .int .u16 (Z.d.1 : Int), .int .u16 (Z.d.2 : Int), .int .u8 (Z.m.1 : Int), .int .u8 (Z.m.2 : Int)] 33)) :
    Calls Try.prog 71 #[.agg #[.int .u16 (s.1 : Int), .int .u16 (s.2 : Int)], .pointer (some ⟨B, 0, none⟩)] W fun e W' => e = .returned (.agg #[.int .u32 ((putC Z s).a.1 : Int), .int .u32 ((putC Z s).a.2 : Int), .int .u32 ((putC Z s).b.1 : Int), .int .u32 ((putC Z s).b.2 : Int), .int .u16 ((putC Z s).c.1 : Int), .int .u16 ((putC Z s).c.2 : Int), .int .u16 ((putC Z s).d.1 : Int), .int .u16 ((putC Z s).d.2 : Int), .int .u8 ((putC Z s).m.1 : Int), .int .u8 ((putC Z s).m.2 : Int)]) ∧ W'.heap[B]? = some (.cells #[.int .u32 ((putC Z s).a.1 : Int), .int .u32 ((putC Z s).a.2 : Int), .int .u32 ((putC Z s).b.1 : Int), .int .u32 ((putC Z s).b.2 : Int), .int .u16 ((putC Z s).c.1 : Int), .int .u16 ((putC Z s).c.2 : Int), .int .u16 ((putC Z s).d.1 : Int), .int .u16 ((putC Z s).d.2 : Int), .int .u8 ((putC Z s).m.1 : Int), .int .u8 ((putC Z s).m.2 : Int)] 33) ∧ K1 B W W' := by
  have hlt := blk_lt h
  have n1 : ¬ B = W.heap.size := by omega
  have n2 : ¬ B = W.heap.size + 1 := by omega
  go_enter Try.func71, Try.ntmps71
  go_wp2_with (first | (refine wpList_store_blk rfl 29 (.tmp 5) (.tmp 4) rfl B 4 #[.int .u16 (s.1 : Int), .int .u16 (s.2 : Int)] #[.int .u32 (Z.a.1 : Int), .int .u32 (Z.a.2 : Int), .int .u32 (Z.b.1 : Int), .int .u32 (Z.b.2 : Int), .int .u16 (s.1 : Int), .int .u16 (s.2 : Int), .int .u16 (Z.d.1 : Int), .int .u16 (Z.d.2 : Int), .int .u8 (Z.m.1 : Int), .int .u8 (Z.m.2 : Int)] rfl rfl 33 _ (blk_alloc (blk_alloc h _) _) (Nat.le_of_ble_eq_true rfl) rfl (by kernel_rfl) rfl ?_; intro w3 h3 ho3; have hR3 : w3.heap[W.heap.size + 1]? = some (.cells #[.int .u32 0, .int .u32 0, .int .u32 0, .int .u32 0, .int .u16 0, .int .u16 0, .int .u16 0, .int .u16 0, .int .u8 0, .int .u8 0] 33) := (by rw [ho3.block _ (by omega)]; simpa using blk_new (W.alloc (.cells #[.int .u16 (s.1 : Int), .int .u16 (s.2 : Int)] 29)) (.cells #[.int .u32 0, .int .u32 0, .int .u32 0, .int .u32 0, .int .u16 0, .int .u16 0, .int .u16 0, .int .u16 0, .int .u8 0, .int .u8 0] 33)); obtain ⟨e0, e1, e2, e3, e4, e5, e6, e7, e8, e9⟩ := blk10 h3) | (refine wpList_store_blk rfl 33 (.tmp 3) (.tmp 6) rfl (W.heap.size + 1) 0 #[.int .u32 (Z.a.1 : Int), .int .u32 (Z.a.2 : Int), .int .u32 (Z.b.1 : Int), .int .u32 (Z.b.2 : Int), .int .u16 (s.1 : Int), .int .u16 (s.2 : Int), .int .u16 (Z.d.1 : Int), .int .u16 (Z.d.2 : Int), .int .u8 (Z.m.1 : Int), .int .u8 (Z.m.2 : Int)] #[.int .u32 (Z.a.1 : Int), .int .u32 (Z.a.2 : Int), .int .u32 (Z.b.1 : Int), .int .u32 (Z.b.2 : Int), .int .u16 (s.1 : Int), .int .u16 (s.2 : Int), .int .u16 (Z.d.1 : Int), .int .u16 (Z.d.2 : Int), .int .u8 (Z.m.1 : Int), .int .u8 (Z.m.2 : Int)] rfl rfl 33 _ hR3 (Nat.le_of_ble_eq_true rfl) rfl (by kernel_rfl) rfl ?_; intro w4 h4 ho4))
  refine bodyPost_ret (results_blk Try.results71 rfl h4 Try.underlying33 rfl (by kernel_rfl)) rfl ⟨rfl, by rw [ho4.block _ n2]; exact h3, ?_⟩
  refine ⟨ho4.os.trans ho3.os, ho4.tape.trans ho3.tape, ho4.output.trans ho3.output, by rw [ho4.size, ho3.size]; simp; omega, fun k hk hn => ?_⟩
  rw [ho4.block k (by omega), ho3.block k hn, Below.heap_alloc _ _ _ (by simp; omega), Below.heap_alloc _ _ _ hk]
abbrev putD (Z : Bx) (s : Nat × Nat) : Bx := ⟨Z.a, Z.b, Z.c, s, Z.m⟩
theorem dport51 (B : Nat) (s : Nat × Nat) (Z : Bx) (W : World) (h : W.heap[B]? = some (.cells #[.int .u32 (Z.a.1 : Int), .int .u32 (Z.a.2 : Int), .int .u32 (Z.b.1 : Int), .int .u32 (Z.b.2 : Int), .int .u16 (Z.c.1 : Int), .int .u16 (Z.c.2 : Int), .int .u16 (Z.d.1 : Int), .int .u16 (Z.d.2 : Int), .int .u8 (Z.m.1 : Int), .int .u8 (Z.m.2 : Int)] 33)) :
    Calls Try.prog 77 #[.agg #[.int .u16 (s.1 : Int), .int .u16 (s.2 : Int)], .pointer (some ⟨B, 0, none⟩)] W fun e W' => e = .returned (.agg #[.int .u32 ((putD Z s).a.1 : Int), .int .u32 ((putD Z s).a.2 : Int), .int .u32 ((putD Z s).b.1 : Int), .int .u32 ((putD Z s).b.2 : Int), .int .u16 ((putD Z s).c.1 : Int), .int .u16 ((putD Z s).c.2 : Int), .int .u16 ((putD Z s).d.1 : Int), .int .u16 ((putD Z s).d.2 : Int), .int .u8 ((putD Z s).m.1 : Int), .int .u8 ((putD Z s).m.2 : Int)]) ∧ W'.heap[B]? = some (.cells #[.int .u32 ((putD Z s).a.1 : Int), .int .u32 ((putD Z s).a.2 : Int), .int .u32 ((putD Z s).b.1 : Int), .int .u32 ((putD Z s).b.2 : Int), .int .u16 ((putD Z s).c.1 : Int), .int .u16 ((putD Z s).c.2 : Int), .int .u16 ((putD Z s).d.1 : Int), .int .u16 ((putD Z s).d.2 : Int), .int .u8 ((putD Z s).m.1 : Int), .int .u8 ((putD Z s).m.2 : Int)] 33) ∧ K1 B W W' := by
  have hlt := blk_lt h
  have n1 : ¬ B = W.heap.size := by omega
  have n2 : ¬ B = W.heap.size + 1 := by omega
  go_enter Try.func77, Try.ntmps77
  go_wp2_with (first | (refine wpList_store_blk rfl 29 (.tmp 5) (.tmp 4) rfl B 6 #[.int .u16 (s.1 : Int), .int .u16 (s.2 : Int)] #[.int .u32 (Z.a.1 : Int), .int .u32 (Z.a.2 : Int), .int .u32 (Z.b.1 : Int), .int .u32 (Z.b.2 : Int), .int .u16 (Z.c.1 : Int), .int .u16 (Z.c.2 : Int), .int .u16 (s.1 : Int), .int .u16 (s.2 : Int), .int .u8 (Z.m.1 : Int), .int .u8 (Z.m.2 : Int)] rfl rfl 33 _ (blk_alloc (blk_alloc h _) _) (Nat.le_of_ble_eq_true rfl) rfl (by kernel_rfl) rfl ?_; intro w3 h3 ho3; have hR3 : w3.heap[W.heap.size + 1]? = some (.cells #[.int .u32 0, .int .u32 0, .int .u32 0, .int .u32 0, .int .u16 0, .int .u16 0, .int .u16 0, .int .u16 0, .int .u8 0, .int .u8 0] 33) := (by rw [ho3.block _ (by omega)]; simpa using blk_new (W.alloc (.cells #[.int .u16 (s.1 : Int), .int .u16 (s.2 : Int)] 29)) (.cells #[.int .u32 0, .int .u32 0, .int .u32 0, .int .u32 0, .int .u16 0, .int .u16 0, .int .u16 0, .int .u16 0, .int .u8 0, .int .u8 0] 33)); obtain ⟨e0, e1, e2, e3, e4, e5, e6, e7, e8, e9⟩ := blk10 h3) | (refine wpList_store_blk rfl 33 (.tmp 3) (.tmp 6) rfl (W.heap.size + 1) 0 #[.int .u32 (Z.a.1 : Int), .int .u32 (Z.a.2 : Int), .int .u32 (Z.b.1 : Int), .int .u32 (Z.b.2 : Int), .int .u16 (Z.c.1 : Int), .int .u16 (Z.c.2 : Int), .int .u16 (s.1 : Int), .int .u16 (s.2 : Int), .int .u8 (Z.m.1 : Int), .int .u8 (Z.m.2 : Int)] #[.int .u32 (Z.a.1 : Int), .int .u32 (Z.a.2 : Int), .int .u32 (Z.b.1 : Int), .int .u32 (Z.b.2 : Int), .int .u16 (Z.c.1 : Int), .int .u16 (Z.c.2 : Int), .int .u16 (s.1 : Int), .int .u16 (s.2 : Int), .int .u8 (Z.m.1 : Int), .int .u8 (Z.m.2 : Int)] rfl rfl 33 _ hR3 (Nat.le_of_ble_eq_true rfl) rfl (by kernel_rfl) rfl ?_; intro w4 h4 ho4))
  refine bodyPost_ret (results_blk Try.results77 rfl h4 Try.underlying33 rfl (by kernel_rfl)) rfl ⟨rfl, by rw [ho4.block _ n2]; exact h3, ?_⟩
  refine ⟨ho4.os.trans ho3.os, ho4.tape.trans ho3.tape, ho4.output.trans ho3.output, by rw [ho4.size, ho3.size]; simp; omega, fun k hk hn => ?_⟩
  rw [ho4.block k (by omega), ho3.block k hn, Below.heap_alloc _ _ _ (by simp; omega), Below.heap_alloc _ _ _ hk]
abbrev putM (Z : Bx) (s : Nat × Nat) : Bx := ⟨Z.a, Z.b, Z.c, Z.d, s⟩
theorem proto51 (B : Nat) (s : Nat × Nat) (Z : Bx) (W : World) (h : W.heap[B]? = some (.cells #[.int .u32 (Z.a.1 : Int), .int .u32 (Z.a.2 : Int), .int .u32 (Z.b.1 : Int), .int .u32 (Z.b.2 : Int), .int .u16 (Z.c.1 : Int), .int .u16 (Z.c.2 : Int), .int .u16 (Z.d.1 : Int), .int .u16 (Z.d.2 : Int), .int .u8 (Z.m.1 : Int), .int .u8 (Z.m.2 : Int)] 33)) :
    Calls Try.prog 88 #[.agg #[.int .u8 (s.1 : Int), .int .u8 (s.2 : Int)], .pointer (some ⟨B, 0, none⟩)] W fun e W' => e = .returned (.agg #[.int .u32 ((putM Z s).a.1 : Int), .int .u32 ((putM Z s).a.2 : Int), .int .u32 ((putM Z s).b.1 : Int), .int .u32 ((putM Z s).b.2 : Int), .int .u16 ((putM Z s).c.1 : Int), .int .u16 ((putM Z s).c.2 : Int), .int .u16 ((putM Z s).d.1 : Int), .int .u16 ((putM Z s).d.2 : Int), .int .u8 ((putM Z s).m.1 : Int), .int .u8 ((putM Z s).m.2 : Int)]) ∧ W'.heap[B]? = some (.cells #[.int .u32 ((putM Z s).a.1 : Int), .int .u32 ((putM Z s).a.2 : Int), .int .u32 ((putM Z s).b.1 : Int), .int .u32 ((putM Z s).b.2 : Int), .int .u16 ((putM Z s).c.1 : Int), .int .u16 ((putM Z s).c.2 : Int), .int .u16 ((putM Z s).d.1 : Int), .int .u16 ((putM Z s).d.2 : Int), .int .u8 ((putM Z s).m.1 : Int), .int .u8 ((putM Z s).m.2 : Int)] 33) ∧ K1 B W W' := by
  have hlt := blk_lt h
  have n1 : ¬ B = W.heap.size := by omega
  have n2 : ¬ B = W.heap.size + 1 := by omega
  go_enter Try.func88, Try.ntmps88
  go_wp2_with (first | (refine wpList_store_blk rfl 31 (.tmp 5) (.tmp 4) rfl B 8 #[.int .u8 (s.1 : Int), .int .u8 (s.2 : Int)] #[.int .u32 (Z.a.1 : Int), .int .u32 (Z.a.2 : Int), .int .u32 (Z.b.1 : Int), .int .u32 (Z.b.2 : Int), .int .u16 (Z.c.1 : Int), .int .u16 (Z.c.2 : Int), .int .u16 (Z.d.1 : Int), .int .u16 (Z.d.2 : Int), .int .u8 (s.1 : Int), .int .u8 (s.2 : Int)] rfl rfl 33 _ (blk_alloc (blk_alloc h _) _) (Nat.le_of_ble_eq_true rfl) rfl (by kernel_rfl) rfl ?_; intro w3 h3 ho3; have hR3 : w3.heap[W.heap.size + 1]? = some (.cells #[.int .u32 0, .int .u32 0, .int .u32 0, .int .u32 0, .int .u16 0, .int .u16 0, .int .u16 0, .int .u16 0, .int .u8 0, .int .u8 0] 33) := (by rw [ho3.block _ (by omega)]; simpa using blk_new (W.alloc (.cells #[.int .u8 (s.1 : Int), .int .u8 (s.2 : Int)] 31)) (.cells #[.int .u32 0, .int .u32 0, .int .u32 0, .int .u32 0, .int .u16 0, .int .u16 0, .int .u16 0, .int .u16 0, .int .u8 0, .int .u8 0] 33)); obtain ⟨e0, e1, e2, e3, e4, e5, e6, e7, e8, e9⟩ := blk10 h3) | (refine wpList_store_blk rfl 33 (.tmp 3) (.tmp 6) rfl (W.heap.size + 1) 0 #[.int .u32 (Z.a.1 : Int), .int .u32 (Z.a.2 : Int), .int .u32 (Z.b.1 : Int), .int .u32 (Z.b.2 : Int), .int .u16 (Z.c.1 : Int), .int .u16 (Z.c.2 : Int), .int .u16 (Z.d.1 : Int), .int .u16 (Z.d.2 : Int), .int .u8 (s.1 : Int), .int .u8 (s.2 : Int)] #[.int .u32 (Z.a.1 : Int), .int .u32 (Z.a.2 : Int), .int .u32 (Z.b.1 : Int), .int .u32 (Z.b.2 : Int), .int .u16 (Z.c.1 : Int), .int .u16 (Z.c.2 : Int), .int .u16 (Z.d.1 : Int), .int .u16 (Z.d.2 : Int), .int .u8 (s.1 : Int), .int .u8 (s.2 : Int)] rfl rfl 33 _ hR3 (Nat.le_of_ble_eq_true rfl) rfl (by kernel_rfl) rfl ?_; intro w4 h4 ho4))
  refine bodyPost_ret (results_blk Try.results88 rfl h4 Try.underlying33 rfl (by kernel_rfl)) rfl ⟨rfl, by rw [ho4.block _ n2]; exact h3, ?_⟩
  refine ⟨ho4.os.trans ho3.os, ho4.tape.trans ho3.tape, ho4.output.trans ho3.output, by rw [ho4.size, ho3.size]; simp; omega, fun k hk hn => ?_⟩
  rw [ho4.block k (by omega), ho3.block k hn, Below.heap_alloc _ _ _ (by simp; omega), Below.heap_alloc _ _ _ hk]
set_option maxRecDepth 20000 in
set_option maxHeartbeats 1000000 in
theorem each_src (B : Nat) (X : Bx) (l : List (Nat × Nat)) (v : Value) (b : Nat) (w : World) (hr : RowR w b v l) (hb : B < b) (hX : w.heap[B]? = some (.cells #[.int .u32 (X.a.1 : Int), .int .u32 (X.a.2 : Int), .int .u32 (X.b.1 : Int), .int .u32 (X.b.2 : Int), .int .u16 (X.c.1 : Int), .int .u16 (X.c.2 : Int), .int .u16 (X.d.1 : Int), .int .u16 (X.d.2 : Int), .int .u8 (X.m.1 : Int), .int .u8 (X.m.2 : Int)] 33)) (hl : l.length ≤ 100) :
    Calls Try.prog 52 #[v, .func (.func 54) #[] #[.pointer (some ⟨B, 0, none⟩)]] w fun e w' => ∃ v' : Value, e = .returned v' ∧ RowX w' w.heap.size v' (l.map (putA X)) ∧ Below B w w' := by
  obtain ⟨ad, cap, rfl, hcap, hat⟩ := hr.form
  have hBw := blk_lt hX
  have HX : Hid (w.heap[B]? = some (.cells #[.int .u32 (X.a.1 : Int), .int .u32 (X.a.2 : Int), .int .u32 (X.b.1 : Int), .int .u32 (X.b.2 : Int), .int .u16 (X.c.1 : Int), .int .u16 (X.c.2 : Int), .int .u16 (X.d.1 : Int), .int .u16 (X.d.2 : Int), .int .u8 (X.m.1 : Int), .int .u8 (X.m.2 : Int)] 33)) := hX
  have HL : Hid (l.length ≤ 100) := hl
  clear hr hX
  obtain ⟨n, hn⟩ : ∃ n, n = l.length := ⟨_, rfl⟩
  rw [← hn] at hl hcap ⊢
  have HN : Hid (n = l.length) := hn
  clear hn
  go_enter Try.func52, Try.ntmps52
  go_wp2
  go_loopw [5, 10] (fun lv iv wr => ∃ (k : Nat) (Z : Bx), k ≤ n ∧ iv = .int .i64 (k : Int) ∧ Hid (RowX wr w.heap.size lv ((l.take k).map (putA X))) ∧ Hid (wr.heap[B]? = some (.cells #[.int .u32 (Z.a.1 : Int), .int .u32 (Z.a.2 : Int), .int .u32 (Z.b.1 : Int), .int .u32 (Z.b.2 : Int), .int .u16 (Z.c.1 : Int), .int .u16 (Z.c.2 : Int), .int .u16 (Z.d.1 : Int), .int .u16 (Z.d.2 : Int), .int .u8 (Z.m.1 : Int), .int .u8 (Z.m.2 : Int)] 33) ∧ ∀ s, putA Z s = putA X s) ∧ Hid (K1 B w wr)) (fun _ iv _ => n - (intOf iv).toNat)
  case atStart => exact ⟨0, X, Nat.zero_le _, rfl, RowX.nil _ _, ⟨HX.out, fun _ => rfl⟩, K1.refl _ _⟩
  case round =>
    obtain ⟨k, Z, hk, rfl, hrow, hZ, hk1⟩ := hrel
    have hlen : Hid (((l.take k).map (putA X)).length = k) := by show _ = _; rw [List.length_map, List.length_take, ← HN.out]; omega
    obtain ⟨ad5, cap5, rfl, hcap5, _⟩ := hrow.out.form
    rw [hlen.out] at hrow hcap5 ⊢
    by_cases hltn : k < n
    · have hlt : k < l.length := by rw [← HN.out]; exact hltn
      obtain ⟨g, rfl, hgb, hgl, c⟩ := hat (by omega)
      obtain ⟨s, hs⟩ : ∃ s, s = l[k] := ⟨_, rfl⟩
      have x1 : w.cell? ⟨g, k * 2, none⟩ = some (.int .u32 (s.1 : Int)) := by rw [hs]; exact c k hlt 0 (by decide)
      have x2 : w.cell? ⟨g, k * 2 + 1, none⟩ = some (.int .u32 (s.2 : Int)) := by rw [hs]; exact c k hlt 1 (by decide)
      have y1 := k1_cell hk1.out x1 (by show g ≠ B; omega)
      have y2 := k1_cell hk1.out x2 (by show g ≠ B; omega)
      have htake : Hid ((l.take (k + 1)).map (putA X) = (l.take k).map (putA X) ++ [putA X s]) := by show _ = _; rw [List.take_succ_eq_append_getElem hlt, List.map_append, hs]; rfl
      have hzs := hk1.out.size
      clear x1 x2 c hat hs hlt
      have hlt' : (k : Int) < (n : Int) := by omega
      have hk0 : (0 : Int) ≤ (k : Int) := by omega
      go_wp2_with (fail)
      refine (src51 B s Z _ (blk_alloc hZ.out.1 _)).mono ?_
      rintro e w2 ⟨rfl, h2, hk2⟩
      have hk3 : Hid (K1 B w w2) := (hk1.out.trans (K1.alloc _ _)).trans hk2
      have hR2 : Hid (RowX w2 w.heap.size (.slice ad5 k cap5) ((l.take k).map (putA X))) := (hrow.out.alloc _).k1 hk2 hBw
      have hZ2 : Hid (w2.heap[B]? = some (.cells #[.int .u32 ((putA Z s).a.1 : Int), .int .u32 ((putA Z s).a.2 : Int), .int .u32 ((putA Z s).b.1 : Int), .int .u32 ((putA Z s).b.2 : Int), .int .u16 ((putA Z s).c.1 : Int), .int .u16 ((putA Z s).c.2 : Int), .int .u16 ((putA Z s).d.1 : Int), .int .u16 ((putA Z s).d.2 : Int), .int .u8 ((putA Z s).m.1 : Int), .int .u8 ((putA Z s).m.2 : Int)] 33) ∧ ∀ t, putA (putA Z s) t = putA X t) := ⟨h2, fun t => (hZ.out.2 t)⟩
      have hzs2 := hk3.out.size
      have hps : Hid (putA Z s = putA X s) := hZ.out.2 s
      clear h2 hk2 hrow hZ hk1 y1 y2
      go_wp2_with (at_builtin; refine wpList_appendX rfl (.tmp 14) (.tmp 18) rfl w.heap.size _ ((l.take k).map (putA X)) rfl (hR2.out.alloc _) w.heap.size _ [putA Z s] rfl (RowX.one w2 w.heap.size (putA Z s) hzs2) (by simp; omega) (by rw [hlen.out]; simp; omega) ?_; intro v5 w5 hrow5 hgr5)
      have hf5 : w5.heap[B]? = some (.cells #[.int .u32 ((putA Z s).a.1 : Int), .int .u32 ((putA Z s).a.2 : Int), .int .u32 ((putA Z s).b.1 : Int), .int .u32 ((putA Z s).b.2 : Int), .int .u16 ((putA Z s).c.1 : Int), .int .u16 ((putA Z s).c.2 : Int), .int .u16 ((putA Z s).d.1 : Int), .int .u16 ((putA Z s).d.2 : Int), .int .u8 ((putA Z s).m.1 : Int), .int .u8 ((putA Z s).m.2 : Int)] 33) := by rw [hgr5.block B (by simp; omega) (fun e => by have := (hR2.out.lt B e.symm).1; omega)]; exact blk_alloc hZ2.out.1 _
      go_roundw
      case rel => exact ⟨k + 1, putA Z s, by omega, by go_num, by show RowX _ _ _ _; rw [htake.out, ← hps.out]; exact hrow5, ⟨hf5, hZ2.out.2⟩, (hk3.out.trans (K1.alloc _ _)).grown (hR2.out.alloc _) hgr5 (Nat.le_refl _)⟩
      case measure => simp [intOf]; omega
    · obtain rfl : k = n := by omega
      have htake : Hid ((l.take k).map (putA X) = l.map (putA X)) := by show _ = _; rw [HN.out, List.take_length]
      go_wp2
      go_ret
      exact ⟨_, rfl, by rw [← htake.out]; exact hrow.out, hk1.out.below (Nat.le_refl _) (by omega)⟩
set_option maxRecDepth 20000 in
set_option maxHeartbeats 1000000 in
theorem each_dst (B : Nat) (X : Bx) (l : List (Nat × Nat)) (v : Value) (b : Nat) (w : World) (hr : RowR w b v l) (hb : B < b) (hX : w.heap[B]? = some (.cells #[.int .u32 (X.a.1 : Int), .int .u32 (X.a.2 : Int), .int .u32 (X.b.1 : Int), .int .u32 (X.b.2 : Int), .int .u16 (X.c.1 : Int), .int .u16 (X.c.2 : Int), .int .u16 (X.d.1 : Int), .int .u16 (X.d.2 : Int), .int .u8 (X.m.1 : Int), .int .u8 (X.m.2 : Int)] 33)) (hl : l.length ≤ 100) :
    Calls Try.prog 52 #[v, .func (.func 60) #[] #[.pointer (some ⟨B, 0, none⟩)]] w fun e w' => ∃ v' : Value, e = .returned v' ∧ RowX w' w.heap.size v' (l.map (putB X)) ∧ Below B w w' := by
  obtain ⟨ad, cap, rfl, hcap, hat⟩ := hr.form
  have hBw := blk_lt hX
  have HX : Hid (w.heap[B]? = some (.cells #[.int .u32 (X.a.1 : Int), .int .u32 (X.a.2 : Int), .int .u32 (X.b.1 : Int), .int .u32 (X.b.2 : Int), .int .u16 (X.c.1 : Int), .int .u16 (X.c.2 : Int), .int .u16 (X.d.1 : Int), .int .u16 (X.d.2 : Int), .int .u8 (X.m.1 : Int), .int .u8 (X.m.2 : Int)] 33)) := hX
  have HL : Hid (l.length ≤ 100) := hl
  clear hr hX
  obtain ⟨n, hn⟩ : ∃ n, n = l.length := ⟨_, rfl⟩
  rw [← hn] at hl hcap ⊢
  have HN : Hid (n = l.length) := hn
  clear hn
  go_enter Try.func52, Try.ntmps52
  go_wp2
  go_loopw [5, 10] (fun lv iv wr => ∃ (k : Nat) (Z : Bx), k ≤ n ∧ iv = .int .i64 (k : Int) ∧ Hid (RowX wr w.heap.size lv ((l.take k).map (putB X))) ∧ Hid (wr.heap[B]? = some (.cells #[.int .u32 (Z.a.1 : Int), .int .u32 (Z.a.2 : Int), .int .u32 (Z.b.1 : Int), .int .u32 (Z.b.2 : Int), .int .u16 (Z.c.1 : Int), .int .u16 (Z.c.2 : Int), .int .u16 (Z.d.1 : Int), .int .u16 (Z.d.2 : Int), .int .u8 (Z.m.1 : Int), .int .u8 (Z.m.2 : Int)] 33) ∧ ∀ s, putB Z s = putB X s) ∧ Hid (K1 B w wr)) (fun _ iv _ => n - (intOf iv).toNat)
  case atStart => exact ⟨0, X, Nat.zero_le _, rfl, RowX.nil _ _, ⟨HX.out, fun _ => rfl⟩, K1.refl _ _⟩
  case round =>
    obtain ⟨k, Z, hk, rfl, hrow, hZ, hk1⟩ := hrel
    have hlen : Hid (((l.take k).map (putB X)).length = k) := by show _ = _; rw [List.length_map, List.length_take, ← HN.out]; omega
    obtain ⟨ad5, cap5, rfl, hcap5, _⟩ := hrow.out.form
    rw [hlen.out] at hrow hcap5 ⊢
    by_cases hltn : k < n
    · have hlt : k < l.length := by rw [← HN.out]; exact hltn
      obtain ⟨g, rfl, hgb, hgl, c⟩ := hat (by omega)
      obtain ⟨s, hs⟩ : ∃ s, s = l[k] := ⟨_, rfl⟩
      have x1 : w.cell? ⟨g, k * 2, none⟩ = some (.int .u32 (s.1 : Int)) := by rw [hs]; exact c k hlt 0 (by decide)
      have x2 : w.cell? ⟨g, k * 2 + 1, none⟩ = some (.int .u32 (s.2 : Int)) := by rw [hs]; exact c k hlt 1 (by decide)
      have y1 := k1_cell hk1.out x1 (by show g ≠ B; omega)
      have y2 := k1_cell hk1.out x2 (by show g ≠ B; omega)
      have htake : Hid ((l.take (k + 1)).map (putB X) = (l.take k).map (putB X) ++ [putB X s]) := by show _ = _; rw [List.take_succ_eq_append_getElem hlt, List.map_append, hs]; rfl
      have hzs := hk1.out.size
      clear x1 x2 c hat hs hlt
      have hlt' : (k : Int) < (n : Int) := by omega
      have hk0 : (0 : Int) ≤ (k : Int) := by omega
      go_wp2_with (fail)
      refine (dst51 B s Z _ (blk_alloc hZ.out.1 _)).mono ?_
      rintro e w2 ⟨rfl, h2, hk2⟩
      have hk3 : Hid (K1 B w w2) := (hk1.out.trans (K1.alloc _ _)).trans hk2
      have hR2 : Hid (RowX w2 w.heap.size (.slice ad5 k cap5) ((l.take k).map (putB X))) := (hrow.out.alloc _).k1 hk2 hBw
      have hZ2 : Hid (w2.heap[B]? = some (.cells #[.int .u32 ((putB Z s).a.1 : Int), .int .u32 ((putB Z s).a.2 : Int), .int .u32 ((putB Z s).b.1 : Int), .int .u32 ((putB Z s).b.2 : Int), .int .u16 ((putB Z s).c.1 : Int), .int .u16 ((putB Z s).c.2 : Int), .int .u16 ((putB Z s).d.1 : Int), .int .u16 ((putB Z s).d.2 : Int), .int .u8 ((putB Z s).m.1 : Int), .int .u8 ((putB Z s).m.2 : Int)] 33) ∧ ∀ t, putB (putB Z s) t = putB X t) := ⟨h2, fun t => (hZ.out.2 t)⟩
      have hzs2 := hk3.out.size
      have hps : Hid (putB Z s = putB X s) := hZ.out.2 s
      clear h2 hk2 hrow hZ hk1 y1 y2
      go_wp2_with (at_builtin; refine wpList_appendX rfl (.tmp 14) (.tmp 18) rfl w.heap.size _ ((l.take k).map (putB X)) rfl (hR2.out.alloc _) w.heap.size _ [putB Z s] rfl (RowX.one w2 w.heap.size (putB Z s) hzs2) (by simp; omega) (by rw [hlen.out]; simp; omega) ?_; intro v5 w5 hrow5 hgr5)
      have hf5 : w5.heap[B]? = some (.cells #[.int .u32 ((putB Z s).a.1 : Int), .int .u32 ((putB Z s).a.2 : Int), .int .u32 ((putB Z s).b.1 : Int), .int .u32 ((putB Z s).b.2 : Int), .int .u16 ((putB Z s).c.1 : Int), .int .u16 ((putB Z s).c.2 : Int), .int .u16 ((putB Z s).d.1 : Int), .int .u16 ((putB Z s).d.2 : Int), .int .u8 ((putB Z s).m.1 : Int), .int .u8 ((putB Z s).m.2 : Int)] 33) := by rw [hgr5.block B (by simp; omega) (fun e => by have := (hR2.out.lt B e.symm).1; omega)]; exact blk_alloc hZ2.out.1 _
      go_roundw
      case rel => exact ⟨k + 1, putB Z s, by omega, by go_num, by show RowX _ _ _ _; rw [htake.out, ← hps.out]; exact hrow5, ⟨hf5, hZ2.out.2⟩, (hk3.out.trans (K1.alloc _ _)).grown (hR2.out.alloc _) hgr5 (Nat.le_refl _)⟩
      case measure => simp [intOf]; omega
    · obtain rfl : k = n := by omega
      have htake : Hid ((l.take k).map (putB X) = l.map (putB X)) := by show _ = _; rw [HN.out, List.take_length]
      go_wp2
      go_ret
      exact ⟨_, rfl, by rw [← htake.out]; exact hrow.out, hk1.out.below (Nat.le_refl _) (by omega)⟩
set_option maxRecDepth 20000 in
set_option maxHeartbeats 1000000 in
theorem each_sport (B : Nat) (X : Bx) (l : List (Nat × Nat)) (v : Value) (b : Nat) (w : World) (hr : RowS w b v l) (hb : B < b) (hX : w.heap[B]? = some (.cells #[.int .u32 (X.a.1 : Int), .int .u32 (X.a.2 : Int), .int .u32 (X.b.1 : Int), .int .u32 (X.b.2 : Int), .int .u16 (X.c.1 : Int), .int .u16 (X.c.2 : Int), .int .u16 (X.d.1 : Int), .int .u16 (X.d.2 : Int), .int .u8 (X.m.1 : Int), .int .u8 (X.m.2 : Int)] 33)) (hl : l.length ≤ 100) :
    Calls Try.prog 69 #[v, .func (.func 71) #[] #[.pointer (some ⟨B, 0, none⟩)]] w fun e w' => ∃ v' : Value, e = .returned v' ∧ RowX w' w.heap.size v' (l.map (putC X)) ∧ Below B w w' := by
  obtain ⟨ad, cap, rfl, hcap, hat⟩ := hr.form
  have hBw := blk_lt hX
  have HX : Hid (w.heap[B]? = some (.cells #[.int .u32 (X.a.1 : Int), .int .u32 (X.a.2 : Int), .int .u32 (X.b.1 : Int), .int .u32 (X.b.2 : Int), .int .u16 (X.c.1 : Int), .int .u16 (X.c.2 : Int), .int .u16 (X.d.1 : Int), .int .u16 (X.d.2 : Int), .int .u8 (X.m.1 : Int), .int .u8 (X.m.2 : Int)] 33)) := hX
  have HL : Hid (l.length ≤ 100) := hl
  clear hr hX
  obtain ⟨n, hn⟩ : ∃ n, n = l.length := ⟨_, rfl⟩
  rw [← hn] at hl hcap ⊢
  have HN : Hid (n = l.length) := hn
  clear hn
  go_enter Try.func69, Try.ntmps69
  go_wp2
  go_loopw [5, 10] (fun lv iv wr => ∃ (k : Nat) (Z : Bx), k ≤ n ∧ iv = .int .i64 (k : Int) ∧ Hid (RowX wr w.heap.size lv ((l.take k).map (putC X))) ∧ Hid (wr.heap[B]? = some (.cells #[.int .u32 (Z.a.1 : Int), .int .u32 (Z.a.2 : Int), .int .u32 (Z.b.1 : Int), .int .u32 (Z.b.2 : Int), .int .u16 (Z.c.1 : Int), .int .u16 (Z.c.2 : Int), .int .u16 (Z.d.1 : Int), .int .u16 (Z.d.2 : Int), .int .u8 (Z.m.1 : Int), .int .u8 (Z.m.2 : Int)] 33) ∧ ∀ s, putC Z s = putC X s) ∧ Hid (K1 B w wr)) (fun _ iv _ => n - (intOf iv).toNat)
  case atStart => exact ⟨0, X, Nat.zero_le _, rfl, RowX.nil _ _, ⟨HX.out, fun _ => rfl⟩, K1.refl _ _⟩
  case round =>
    obtain ⟨k, Z, hk, rfl, hrow, hZ, hk1⟩ := hrel
    have hlen : Hid (((l.take k).map (putC X)).length = k) := by show _ = _; rw [List.length_map, List.length_take, ← HN.out]; omega
    obtain ⟨ad5, cap5, rfl, hcap5, _⟩ := hrow.out.form
    rw [hlen.out] at hrow hcap5 ⊢
    by_cases hltn : k < n
    · have hlt : k < l.length := by rw [← HN.out]; exact hltn
      obtain ⟨g, rfl, hgb, hgl, c⟩ := hat (by omega)
      obtain ⟨s, hs⟩ : ∃ s, s = l[k] := ⟨_, rfl⟩
      have x1 : w.cell? ⟨g, k * 2, none⟩ = some (.int .u16 (s.1 : Int)) := by rw [hs]; exact c k hlt 0 (by decide)
      have x2 : w.cell? ⟨g, k * 2 + 1, none⟩ = some (.int .u16 (s.2 : Int)) := by rw [hs]; exact c k hlt 1 (by decide)
      have y1 := k1_cell hk1.out x1 (by show g ≠ B; omega)
      have y2 := k1_cell hk1.out x2 (by show g ≠ B; omega)
      have htake : Hid ((l.take (k + 1)).map (putC X) = (l.take k).map (putC X) ++ [putC X s]) := by show _ = _; rw [List.take_succ_eq_append_getElem hlt, List.map_append, hs]; rfl
      have hzs := hk1.out.size
      clear x1 x2 c hat hs hlt
      have hlt' : (k : Int) < (n : Int) := by omega
      have hk0 : (0 : Int) ≤ (k : Int) := by omega
      go_wp2_with (fail)
      refine (sport51 B s Z _ (blk_alloc hZ.out.1 _)).mono ?_
      rintro e w2 ⟨rfl, h2, hk2⟩
      have hk3 : Hid (K1 B w w2) := (hk1.out.trans (K1.alloc _ _)).trans hk2
      have hR2 : Hid (RowX w2 w.heap.size (.slice ad5 k cap5) ((l.take k).map (putC X))) := (hrow.out.alloc _).k1 hk2 hBw
      have hZ2 : Hid (w2.heap[B]? = some (.cells #[.int .u32 ((putC Z s).a.1 : Int), .int .u32 ((putC Z s).a.2 : Int), .int .u32 ((putC Z s).b.1 : Int), .int .u32 ((putC Z s).b.2 : Int), .int .u16 ((putC Z s).c.1 : Int), .int .u16 ((putC Z s).c.2 : Int), .int .u16 ((putC Z s).d.1 : Int), .int .u16 ((putC Z s).d.2 : Int), .int .u8 ((putC Z s).m.1 : Int), .int .u8 ((putC Z s).m.2 : Int)] 33) ∧ ∀ t, putC (putC Z s) t = putC X t) := ⟨h2, fun t => (hZ.out.2 t)⟩
      have hzs2 := hk3.out.size
      have hps : Hid (putC Z s = putC X s) := hZ.out.2 s
      clear h2 hk2 hrow hZ hk1 y1 y2
      go_wp2_with (at_builtin; refine wpList_appendX rfl (.tmp 14) (.tmp 18) rfl w.heap.size _ ((l.take k).map (putC X)) rfl (hR2.out.alloc _) w.heap.size _ [putC Z s] rfl (RowX.one w2 w.heap.size (putC Z s) hzs2) (by simp; omega) (by rw [hlen.out]; simp; omega) ?_; intro v5 w5 hrow5 hgr5)
      have hf5 : w5.heap[B]? = some (.cells #[.int .u32 ((putC Z s).a.1 : Int), .int .u32 ((putC Z s).a.2 : Int), .int .u32 ((putC Z s).b.1 : Int), .int .u32 ((putC Z s).b.2 : Int), .int .u16 ((putC Z s).c.1 : Int), .int .u16 ((putC Z s).c.2 : Int), .int .u16 ((putC Z s).d.1 : Int), .int .u16 ((putC Z s).d.2 : Int), .int .u8 ((putC Z s).m.1 : Int), .int .u8 ((putC Z s).m.2 : Int)] 33) := by rw [hgr5.block B (by simp; omega) (fun e => by have := (hR2.out.lt B e.symm).1; omega)]; exact blk_alloc hZ2.out.1 _
      go_roundw
      case rel => exact ⟨k + 1, putC Z s, by omega, by go_num, by show RowX _ _ _ _; rw [htake.out, ← hps.out]; exact hrow5, ⟨hf5, hZ2.out.2⟩, (hk3.out.trans (K1.alloc _ _)).grown (hR2.out.alloc _) hgr5 (Nat.le_refl _)⟩
      case measure => simp [intOf]; omega
    · obtain rfl : k = n := by omega
      have htake : Hid ((l.take k).map (putC X) = l.map (putC X)) := by show _ = _; rw [HN.out, List.take_length]
      go_wp2
      go_ret
      exact ⟨_, rfl, by rw [← htake.out]; exact hrow.out, hk1.out.below (Nat.le_refl _) (by omega)⟩
set_option maxRecDepth 20000 in
set_option maxHeartbeats 1000000 in
theorem each_dport (B : Nat) (X : Bx) (l : List (Nat × Nat)) (v : Value) (b : Nat) (w : World) (hr : RowS w b v l) (hb : B < b) (hX : w.heap[B]? = some (.cells #[.int .u32 (X.a.1 : Int), .int .u32 (X.a.2 : Int), .int .u32 (X.b.1 : Int), .int .u32 (X.b.2 : Int), .int .u16 (X.c.1 : Int), .int .u16 (X.c.2 : Int), .int .u16 (X.d.1 : Int), .int .u16 (X.d.2 : Int), .int .u8 (X.m.1 : Int), .int .u8 (X.m.2 : Int)] 33)) (hl : l.length ≤ 100) :
    Calls Try.prog 69 #[v, .func (.func 77) #[] #[.pointer (some ⟨B, 0, none⟩)]] w fun e w' => ∃ v' : Value, e = .returned v' ∧ RowX w' w.heap.size v' (l.map (putD X)) ∧ Below B w w' := by
  obtain ⟨ad, cap, rfl, hcap, hat⟩ := hr.form
  have hBw := blk_lt hX
  have HX : Hid (w.heap[B]? = some (.cells #[.int .u32 (X.a.1 : Int), .int .u32 (X.a.2 : Int), .int .u32 (X.b.1 : Int), .int .u32 (X.b.2 : Int), .int .u16 (X.c.1 : Int), .int .u16 (X.c.2 : Int), .int .u16 (X.d.1 : Int), .int .u16 (X.d.2 : Int), .int .u8 (X.m.1 : Int), .int .u8 (X.m.2 : Int)] 33)) := hX
  have HL : Hid (l.length ≤ 100) := hl
  clear hr hX
  obtain ⟨n, hn⟩ : ∃ n, n = l.length := ⟨_, rfl⟩
  rw [← hn] at hl hcap ⊢
  have HN : Hid (n = l.length) := hn
  clear hn
  go_enter Try.func69, Try.ntmps69
  go_wp2
  go_loopw [5, 10] (fun lv iv wr => ∃ (k : Nat) (Z : Bx), k ≤ n ∧ iv = .int .i64 (k : Int) ∧ Hid (RowX wr w.heap.size lv ((l.take k).map (putD X))) ∧ Hid (wr.heap[B]? = some (.cells #[.int .u32 (Z.a.1 : Int), .int .u32 (Z.a.2 : Int), .int .u32 (Z.b.1 : Int), .int .u32 (Z.b.2 : Int), .int .u16 (Z.c.1 : Int), .int .u16 (Z.c.2 : Int), .int .u16 (Z.d.1 : Int), .int .u16 (Z.d.2 : Int), .int .u8 (Z.m.1 : Int), .int .u8 (Z.m.2 : Int)] 33) ∧ ∀ s, putD Z s = putD X s) ∧ Hid (K1 B w wr)) (fun _ iv _ => n - (intOf iv).toNat)
  case atStart => exact ⟨0, X, Nat.zero_le _, rfl, RowX.nil _ _, ⟨HX.out, fun _ => rfl⟩, K1.refl _ _⟩
  case round =>
    obtain ⟨k, Z, hk, rfl, hrow, hZ, hk1⟩ := hrel
    have hlen : Hid (((l.take k).map (putD X)).length = k) := by show _ = _; rw [List.length_map, List.length_take, ← HN.out]; omega
    obtain ⟨ad5, cap5, rfl, hcap5, _⟩ := hrow.out.form
    rw [hlen.out] at hrow hcap5 ⊢
    by_cases hltn : k < n
    · have hlt : k < l.length := by rw [← HN.out]; exact hltn
      obtain ⟨g, rfl, hgb, hgl, c⟩ := hat (by omega)
      obtain ⟨s, hs⟩ : ∃ s, s = l[k] := ⟨_, rfl⟩
      have x1 : w.cell? ⟨g, k * 2, none⟩ = some (.int .u16 (s.1 : Int)) := by rw [hs]; exact c k hlt 0 (by decide)
      have x2 : w.cell? ⟨g, k * 2 + 1, none⟩ = some (.int .u16 (s.2 : Int)) := by rw [hs]; exact c k hlt 1 (by decide)
      have y1 := k1_cell hk1.out x1 (by show g ≠ B; omega)
      have y2 := k1_cell hk1.out x2 (by show g ≠ B; omega)
      have htake : Hid ((l.take (k + 1)).map (putD X) = (l.take k).map (putD X) ++ [putD X s]) := by show _ = _; rw [List.take_succ_eq_append_getElem hlt, List.map_append, hs]; rfl
      have hzs := hk1.out.size
      clear x1 x2 c hat hs hlt
      have hlt' : (k : Int) < (n : Int) := by omega
      have hk0 : (0 : Int) ≤ (k : Int) := by omega
      go_wp2_with (fail)
      refine (dport51 B s Z _ (blk_alloc hZ.out.1 _)).mono ?_
      rintro e w2 ⟨rfl, h2, hk2⟩
      have hk3 : Hid (K1 B w w2) := (hk1.out.trans (K1.alloc _ _)).trans hk2
      have hR2 : Hid (RowX w2 w.heap.size (.slice ad5 k cap5) ((l.take k).map (putD X))) := (hrow.out.alloc _).k1 hk2 hBw
      have hZ2 : Hid (w2.heap[B]? = some (.cells #[.int .u32 ((putD Z s).a.1 : Int), .int .u32 ((putD Z s).a.2 : Int), .int .u32 ((putD Z s).b.1 : Int), .int .u32 ((putD Z s).b.2 : Int), .int .u16 ((putD Z s).c.1 : Int), .int .u16 ((putD Z s).c.2 : Int), .int .u16 ((putD Z s).d.1 : Int), .int .u16 ((putD Z s).d.2 : Int), .int .u8 ((putD Z s).m.1 : Int), .int .u8 ((putD Z s).m.2 : Int)] 33) ∧ ∀ t, putD (putD Z s) t = putD X t) := ⟨h2, fun t => (hZ.out.2 t)⟩
      have hzs2 := hk3.out.size
      have hps : Hid (putD Z s = putD X s) := hZ.out.2 s
      clear h2 hk2 hrow hZ hk1 y1 y2
      go_wp2_with (at_builtin; refine wpList_appendX rfl (.tmp 14) (.tmp 18) rfl w.heap.size _ ((l.take k).map (putD X)) rfl (hR2.out.alloc _) w.heap.size _ [putD Z s] rfl (RowX.one w2 w.heap.size (putD Z s) hzs2) (by simp; omega) (by rw [hlen.out]; simp; omega) ?_; intro v5 w5 hrow5 hgr5)
      have hf5 : w5.heap[B]? = some (.cells #[.int .u32 ((putD Z s).a.1 : Int), .int .u32 ((putD Z s).a.2 : Int), .int .u32 ((putD Z s).b.1 : Int), .int .u32 ((putD Z s).b.2 : Int), .int .u16 ((putD Z s).c.1 : Int), .int .u16 ((putD Z s).c.2 : Int), .int .u16 ((putD Z s).d.1 : Int), .int .u16 ((putD Z s).d.2 : Int), .int .u8 ((putD Z s).m.1 : Int), .int .u8 ((putD Z s).m.2 : Int)] 33) := by rw [hgr5.block B (by simp; omega) (fun e => by have := (hR2.out.lt B e.symm).1; omega)]; exact blk_alloc hZ2.out.1 _
      go_roundw
      case rel => exact ⟨k + 1, putD Z s, by omega, by go_num, by show RowX _ _ _ _; rw [htake.out, ← hps.out]; exact hrow5, ⟨hf5, hZ2.out.2⟩, (hk3.out.trans (K1.alloc _ _)).grown (hR2.out.alloc _) hgr5 (Nat.le_refl _)⟩
      case measure => simp [intOf]; omega
    · obtain rfl : k = n := by omega
      have htake : Hid ((l.take k).map (putD X) = l.map (putD X)) := by show _ = _; rw [HN.out, List.take_length]
      go_wp2
      go_ret
      exact ⟨_, rfl, by rw [← htake.out]; exact hrow.out, hk1.out.below (Nat.le_refl _) (by omega)⟩
set_option maxRecDepth 20000 in
set_option maxHeartbeats 1000000 in
theorem each_proto (B : Nat) (X : Bx) (l : List (Nat × Nat)) (v : Value) (b : Nat) (w : World) (hr : Row w b v l) (hb : B < b) (hX : w.heap[B]? = some (.cells #[.int .u32 (X.a.1 : Int), .int .u32 (X.a.2 : Int), .int .u32 (X.b.1 : Int), .int .u32 (X.b.2 : Int), .int .u16 (X.c.1 : Int), .int .u16 (X.c.2 : Int), .int .u16 (X.d.1 : Int), .int .u16 (X.d.2 : Int), .int .u8 (X.m.1 : Int), .int .u8 (X.m.2 : Int)] 33)) (hl : l.length ≤ 100) :
    Calls Try.prog 86 #[v, .func (.func 88) #[] #[.pointer (some ⟨B, 0, none⟩)]] w fun e w' => ∃ v' : Value, e = .returned v' ∧ RowX w' w.heap.size v' (l.map (putM X)) ∧ Below B w w' := by
  obtain ⟨ad, cap, rfl, hcap, hat⟩ := hr.form
  have hBw := blk_lt hX
  have HX : Hid (w.heap[B]? = some (.cells #[.int .u32 (X.a.1 : Int), .int .u32 (X.a.2 : Int), .int .u32 (X.b.1 : Int), .int .u32 (X.b.2 : Int), .int .u16 (X.c.1 : Int), .int .u16 (X.c.2 : Int), .int .u16 (X.d.1 : Int), .int .u16 (X.d.2 : Int), .int .u8 (X.m.1 : Int), .int .u8 (X.m.2 : Int)] 33)) := hX
  have HL : Hid (l.length ≤ 100) := hl
  clear hr hX
  obtain ⟨n, hn⟩ : ∃ n, n = l.length := ⟨_, rfl⟩
  rw [← hn] at hl hcap ⊢
  have HN : Hid (n = l.length) := hn
  clear hn
  go_enter Try.func86, Try.ntmps86
  go_wp2
  go_loopw [5, 10] (fun lv iv wr => ∃ (k : Nat) (Z : Bx), k ≤ n ∧ iv = .int .i64 (k : Int) ∧ Hid (RowX wr w.heap.size lv ((l.take k).map (putM X))) ∧ Hid (wr.heap[B]? = some (.cells #[.int .u32 (Z.a.1 : Int), .int .u32 (Z.a.2 : Int), .int .u32 (Z.b.1 : Int), .int .u32 (Z.b.2 : Int), .int .u16 (Z.c.1 : Int), .int .u16 (Z.c.2 : Int), .int .u16 (Z.d.1 : Int), .int .u16 (Z.d.2 : Int), .int .u8 (Z.m.1 : Int), .int .u8 (Z.m.2 : Int)] 33) ∧ ∀ s, putM Z s = putM X s) ∧ Hid (K1 B w wr)) (fun _ iv _ => n - (intOf iv).toNat)
  case atStart => exact ⟨0, X, Nat.zero_le _, rfl, RowX.nil _ _, ⟨HX.out, fun _ => rfl⟩, K1.refl _ _⟩
  case round =>
    obtain ⟨k, Z, hk, rfl, hrow, hZ, hk1⟩ := hrel
    have hlen : Hid (((l.take k).map (putM X)).length = k) := by show _ = _; rw [List.length_map, List.length_take, ← HN.out]; omega
    obtain ⟨ad5, cap5, rfl, hcap5, _⟩ := hrow.out.form
    rw [hlen.out] at hrow hcap5 ⊢
    by_cases hltn : k < n
    · have hlt : k < l.length := by rw [← HN.out]; exact hltn
      obtain ⟨g, rfl, hgb, hgl, c⟩ := hat (by omega)
      obtain ⟨s, hs⟩ : ∃ s, s = l[k] := ⟨_, rfl⟩
      have x1 : w.cell? ⟨g, k * 2, none⟩ = some (.int .u8 (s.1 : Int)) := by rw [hs]; exact (c k hlt).1
      have x2 : w.cell? ⟨g, k * 2 + 1, none⟩ = some (.int .u8 (s.2 : Int)) := by rw [hs]; exact (c k hlt).2
      have y1 := k1_cell hk1.out x1 (by show g ≠ B; omega)
      have y2 := k1_cell hk1.out x2 (by show g ≠ B; omega)
      have htake : Hid ((l.take (k + 1)).map (putM X) = (l.take k).map (putM X) ++ [putM X s]) := by show _ = _; rw [List.take_succ_eq_append_getElem hlt, List.map_append, hs]; rfl
      have hzs := hk1.out.size
      clear x1 x2 c hat hs hlt
      have hlt' : (k : Int) < (n : Int) := by omega
      have hk0 : (0 : Int) ≤ (k : Int) := by omega
      go_wp2_with (fail)
      refine (proto51 B s Z _ (blk_alloc hZ.out.1 _)).mono ?_
      rintro e w2 ⟨rfl, h2, hk2⟩
      have hk3 : Hid (K1 B w w2) := (hk1.out.trans (K1.alloc _ _)).trans hk2
      have hR2 : Hid (RowX w2 w.heap.size (.slice ad5 k cap5) ((l.take k).map (putM X))) := (hrow.out.alloc _).k1 hk2 hBw
      have hZ2 : Hid (w2.heap[B]? = some (.cells #[.int .u32 ((putM Z s).a.1 : Int), .int .u32 ((putM Z s).a.2 : Int), .int .u32 ((putM Z s).b.1 : Int), .int .u32 ((putM Z s).b.2 : Int), .int .u16 ((putM Z s).c.1 : Int), .int .u16 ((putM Z s).c.2 : Int), .int .u16 ((putM Z s).d.1 : Int), .int .u16 ((putM Z s).d.2 : Int), .int .u8 ((putM Z s).m.1 : Int), .int .u8 ((putM Z s).m.2 : Int)] 33) ∧ ∀ t, putM (putM Z s) t = putM X t) := ⟨h2, fun t => (hZ.out.2 t)⟩
      have hzs2 := hk3.out.size
      have hps : Hid (putM Z s = putM X s) := hZ.out.2 s
      clear h2 hk2 hrow hZ hk1 y1 y2
      go_wp2_with (at_builtin; refine wpList_appendX rfl (.tmp 14) (.tmp 18) rfl w.heap.size _ ((l.take k).map (putM X)) rfl (hR2.out.alloc _) w.heap.size _ [putM Z s] rfl (RowX.one w2 w.heap.size (putM Z s) hzs2) (by simp; omega) (by rw [hlen.out]; simp; omega) ?_; intro v5 w5 hrow5 hgr5)
      have hf5 : w5.heap[B]? = some (.cells #[.int .u32 ((putM Z s).a.1 : Int), .int .u32 ((putM Z s).a.2 : Int), .int .u32 ((putM Z s).b.1 : Int), .int .u32 ((putM Z s).b.2 : Int), .int .u16 ((putM Z s).c.1 : Int), .int .u16 ((putM Z s).c.2 : Int), .int .u16 ((putM Z s).d.1 : Int), .int .u16 ((putM Z s).d.2 : Int), .int .u8 ((putM Z s).m.1 : Int), .int .u8 ((putM Z s).m.2 : Int)] 33) := by rw [hgr5.block B (by simp; omega) (fun e => by have := (hR2.out.lt B e.symm).1; omega)]; exact blk_alloc hZ2.out.1 _
      go_roundw
      case rel => exact ⟨k + 1, putM Z s, by omega, by go_num, by show RowX _ _ _ _; rw [htake.out, ← hps.out]; exact hrow5, ⟨hf5, hZ2.out.2⟩, (hk3.out.trans (K1.alloc _ _)).grown (hR2.out.alloc _) hgr5 (Nat.le_refl _)⟩
      case measure => simp [intOf]; omega
    · obtain rfl : k = n := by omega
      have htake : Hid ((l.take k).map (putM X) = l.map (putM X)) := by show _ = _; rw [HN.out, List.take_length]
      go_wp2
      go_ret
      exact ⟨_, rfl, by rw [← htake.out]; exact hrow.out, hk1.out.below (Nat.le_refl _) (by omega)⟩
end Go.Proofs.Ythggiblkehcfaaa
