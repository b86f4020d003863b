/-
  A trie in memory; its small functions.
-/
import Derived.Test.YtfbkjghipahipaaTrU
import Derived.Laws.BitsAllLaws
namespace Go.Proofs.Ytfbkjghipahipaa
open Go.RowKit
set_option linter.unusedVariables false
set_option linter.unusedSimpArgs false

/-- The trie in block t: width, how many nodes there may be, its nodes in the row v, the root, the first free place, how many nodes there are. -/
def Tri (w : World) (t : Nat) (v : Value) (W M : Nat) (A : List Nd) (r f c : Nat) : Prop :=
  w.heap[t]? = some (.cells #[.int .i64 (W : Int), .int .i64 (M : Int), v, .int .i64 (r : Int), .int .i64 (f : Int), .int .i64 (c : Int)] 58 (0, 0)) ∧ RowN w 0 v A ∧ v.ownBlock ≠ some t
section
variable {w w1 : World} {t : Nat} {v : Value} {W M : Nat} {A : List Nd} {r f c : Nat}
theorem Tri.on (h : Tri w t v W M A r f c) (hb : Below w.heap.size w w1) : Tri w1 t v W M A r f c := ⟨blk_on h.1 hb, h.2.1.on hb, h.2.2⟩
theorem Tri.lt (h : Tri w t v W M A r f c) : t < w.heap.size := blk_lt h.1
theorem Tri.own (h : Tri w t v W M A r f c) {k : Nat} (e : v.ownBlock = some k) : k < w.heap.size := (h.2.1.lt k e).2
theorem Tri.drew (h : Tri w t v W M A r f c) : Tri w.drew t v W M A r f c := h
end
theorem blk6 {w : World} {B : Nat} {v0 v1 v2 v3 v4 v5 : Value} {t : TypeId} {fr : Nat × Nat} (h : w.heap[B]? = some (.cells #[v0, v1, v2, v3, v4, v5] t fr)) : w.cell? ⟨B, 0, none⟩ = some v0 ∧ w.cell? ⟨B, 1, none⟩ = some v1 ∧ w.cell? ⟨B, 2, none⟩ = some v2 ∧ w.cell? ⟨B, 3, none⟩ = some v3 ∧ w.cell? ⟨B, 4, none⟩ = some v4 ∧ w.cell? ⟨B, 5, none⟩ = some v5 := ⟨blk_cell h rfl, blk_cell h rfl, blk_cell h rfl, blk_cell h rfl, blk_cell h rfl, blk_cell h rfl⟩
theorem blk4 {w : World} {B : Nat} {v0 v1 v2 v3 : Value} {t : TypeId} {fr : Nat × Nat} (h : w.heap[B]? = some (.cells #[v0, v1, v2, v3] t fr)) : w.cell? ⟨B, 0, none⟩ = some v0 ∧ w.cell? ⟨B, 1, none⟩ = some v1 ∧ w.cell? ⟨B, 2, none⟩ = some v2 ∧ w.cell? ⟨B, 3, none⟩ = some v3 := ⟨blk_cell h rfl, blk_cell h rfl, blk_cell h rfl, blk_cell h rfl⟩
theorem blk3 {w : World} {B : Nat} {v0 v1 v2 : Value} {t : TypeId} {fr : Nat × Nat} (h : w.heap[B]? = some (.cells #[v0, v1, v2] t fr)) : w.cell? ⟨B, 0, none⟩ = some v0 ∧ w.cell? ⟨B, 1, none⟩ = some v1 ∧ w.cell? ⟨B, 2, none⟩ = some v2 := ⟨blk_cell h rfl, blk_cell h rfl, blk_cell h rfl⟩
/-- What a call that writes the trie leaves as it was; v: its row ahead, v': behind. -/
structure Moved (w w' : World) (t : Nat) (v v' : Value) : Prop where
  os : w'.os = w.os
  tape : w'.tape = w.tape
  output : w'.output = w.output
  size : w.heap.size ≤ w'.heap.size
  block : ∀ k, k < w.heap.size → k ≠ t → v.ownBlock ≠ some k → w'.heap[k]? = w.heap[k]?
  own : ∀ k, v'.ownBlock = some k → v.ownBlock = some k ∨ w.heap.size ≤ k
theorem Moved.of_below {w w' : World} {t : Nat} {v : Value} (h : Below w.heap.size w w') : Moved w w' t v v :=
  ⟨h.os, h.tape, h.output, h.size, fun k hk _ _ => h.block k hk, fun k e => .inl e⟩
theorem Moved.below {w w' : World} {t B : Nat} {v v' : Value} (h : Moved w w' t v v') (hB : B ≤ w.heap.size) (ht : B ≤ t) (hv : ∀ k, v.ownBlock = some k → B ≤ k) : Below B w w' :=
  ⟨h.os, h.tape, h.output, h.size, fun k hk => h.block k (by omega) (by omega) (fun e => by have := hv k e; omega)⟩
theorem Moved.ge {w w' : World} {t B : Nat} {v v' : Value} (h : Moved w w' t v v') (hB : B ≤ w.heap.size) (hv : ∀ k, v.ownBlock = some k → B ≤ k) : ∀ k, v'.ownBlock = some k → B ≤ k := fun k e => by
  rcases h.own k e with h1 | h1
  · exact hv k h1
  · omega
theorem Moved.trans {w w1 w2 : World} {t : Nat} {v v1 v2 : Value} (h : Moved w w1 t v v1) (g : Moved w1 w2 t v1 v2) : Moved w w2 t v v2 :=
  ⟨g.os.trans h.os, g.tape.trans h.tape, g.output.trans h.output, Nat.le_trans h.size g.size, fun k hk ht hv => by
    rw [g.block k (Nat.lt_of_lt_of_le hk h.size) ht (fun e => by rcases h.own k e with h1 | h1
                                                                 · exact hv h1
                                                                 · omega), h.block k hk ht hv], fun k e => by
    rcases g.own k e with h1 | h1
    · exact h.own k h1
    · exact .inr (Nat.le_trans h.size h1)⟩
theorem Moved.undrew {w w' : World} {t : Nat} {v v' : Value} (m : Moved w.drew w' t v v') : Moved w w' t v v' := ⟨m.os, m.tape, m.output, m.size, m.block, m.own⟩
/-- A block that is neither the trie's nor its row's. -/
def Kb (w : World) (t : Nat) (v : Value) (B : Nat) (o : Obj) : Prop := w.heap[B]? = some o ∧ B ≠ t ∧ v.ownBlock ≠ some B
theorem Kb.lt {w : World} {t : Nat} {v : Value} {B : Nat} {o : Obj} (h : Kb w t v B o) : B < w.heap.size := blk_lt h.1
theorem Kb.moved {w w' : World} {t : Nat} {v v' : Value} {B : Nat} {o : Obj} (h : Kb w t v B o) (m : Moved w w' t v v') : Kb w' t v' B o := by
  refine ⟨by rw [m.block B h.lt h.2.1 h.2.2]; exact h.1, h.2.1, fun e => ?_⟩
  rcases m.own B e with h1 | h1
  · exact h.2.2 h1
  · have := h.lt; omega
theorem Kb.on {w w1 : World} {t : Nat} {v : Value} {B : Nat} {o : Obj} (h : Kb w t v B o) (hb : Below w.heap.size w w1) : Kb w1 t v B o := ⟨blk_on h.1 hb, h.2.1, h.2.2⟩
/-- The cell of the width. -/
def Wid (w : World) (t W : Nat) : Prop := w.cell? ⟨t, 0, none⟩ = some (.int .i64 (W : Int))
theorem Tri.wid {w : World} {t : Nat} {v : Value} {W M : Nat} {A : List Nd} {r f c : Nat} (h : Tri w t v W M A r f c) : Wid w t W := (blk6 h.1).1
theorem pow_le32 {k : Nat} (h : k ≤ 32) : 2 ^ k ≤ 4294967296 := Nat.pow_le_pow_right (n := 2) (by decide) h
theorem and_low (k j : Nat) : k &&& (2 ^ j - 1) = k % 2 ^ j := Nat.and_two_pow_sub_one_eq_mod k j
theorem andNot_high (q k : Nat) (hq : q < 4294967296) (hk : k ≤ 32) : q &&& (4294967295 - (2 ^ k - 1)) = q - q % 2 ^ k := by
  have e : 4294967295 - (2 ^ k - 1) = (2 ^ (32 - k) - 1) <<< k :=
    (by decide +kernel : ∀ k, k < 33 → 4294967295 - (2 ^ k - 1) = (2 ^ (32 - k) - 1) <<< k) k (by omega)
  have e2 : q - q % 2 ^ k = (q >>> k) <<< k := by
    rw [Nat.shiftRight_eq_div_pow, Nat.shiftLeft_eq, Nat.mul_comm]; have := Nat.div_add_mod q (2 ^ k); omega
  rw [e, e2]
  apply Nat.eq_of_testBit_eq
  intro i
  rw [Nat.testBit_and, Nat.testBit_shiftLeft, Nat.testBit_shiftLeft, Nat.testBit_two_pow_sub_one, Nat.testBit_shiftRight]
  by_cases h1 : k ≤ i
  · by_cases h2 : i < 32
    · have a1 : decide (i ≥ k) = true := decide_eq_true h1
      have a2 : decide (i - k < 32 - k) = true := decide_eq_true (by omega)
      rw [a1, a2, show k + (i - k) = i by omega]
      simp
    · have hz : q.testBit i = false := Nat.testBit_lt_two_pow (Nat.lt_of_lt_of_le hq (Nat.pow_le_pow_right (n := 2) (by decide) (show 32 ≤ i by omega)))
      rw [show k + (i - k) = i by omega, hz]
      simp
  · have a1 : decide (i ≥ k) = false := decide_eq_false (by omega)
    rw [a1]; simp
theorem bit_of (j : Nat) (h : j < 32) : (2 ^ (j + 1) - 1) &&& (4294967295 - (2 ^ j - 1)) = 2 ^ j :=
  (by decide +kernel : ∀ j, j < 32 → (2 ^ (j + 1) - 1) &&& (4294967295 - (2 ^ j - 1)) = 2 ^ j) j h
theorem or_bit (k j : Nat) (h : k % 2 ^ (j + 1) = 0) : k ||| 2 ^ j = k + 2 ^ j := by
  obtain ⟨c, rfl⟩ := Nat.dvd_of_mod_eq_zero h
  have := Nat.two_pow_add_eq_or_of_lt (i := j + 1) (b := 2 ^ j) (by rw [Nat.pow_succ]; have := Nat.two_pow_pos j; omega) c
  rw [← this]
theorem beyondC (t W n : Nat) (w : World) (h : Wid w t W) (hn : n ≤ W) (hW : W ≤ 32) :
    Calls Try.prog 33 #[.pointer (some ⟨t, 0, none⟩), .int .i64 (n : Int)] w fun e w' => e = .returned (.int .u32 ((2 ^ (W - n) - 1 : Nat) : Int)) ∧ w' = w := by
  unfold Wid at h
  go_enter Try.func33, Try.ntmps33
  go_wp2
  go_ret
  refine ⟨ret_int ?_, rfl⟩
  have h1 := pow_le32 (show W - n ≤ 32 by omega)
  have h2 := Nat.two_pow_pos (W - n)
  have e : ((2 : Int) ^ (W - n)) = ((2 ^ (W - n) : Nat) : Int) := by simp
  rw [e]
  omega
theorem sid_int (k j : Nat) (hk : k < 4294967296) : bits .and .u32 ((k : Int) / 2 ^ j) 1 = ((k / 2 ^ j % 2 : Nat) : Int) := by
  have e : (k : Int) / 2 ^ j = ((k / 2 ^ j : Nat) : Int) := by simp
  rw [e]
  have h := u32_and_nat (k / 2 ^ j) 1 (Nat.lt_of_le_of_lt (Nat.div_le_self _ _) hk) (by decide)
  rw [nat_mask1] at h
  exact h
theorem sideC (t W n k : Nat) (w : World) (h : Wid w t W) (hn : n < W) (hW : W ≤ 32) (hk : k < 4294967296) :
    Calls Try.prog 42 #[.pointer (some ⟨t, 0, none⟩), .int .u32 (k : Int), .int .i64 (n : Int)] w fun e w' => e = .returned (.int .i64 (sid k (W - n) : Int)) ∧ w' = w := by
  unfold Wid at h
  go_enter Try.func42, Try.ntmps42
  go_wp2
  go_ret
  refine ⟨ret_int ?_, rfl⟩
  rw [sid_int k (W - 1 - n) hk]
  unfold sid
  rw [show W - n - 1 = W - 1 - n by omega]
  unfold wrap64
  have : k / 2 ^ (W - 1 - n) % 2 < 2 := Nat.mod_lt _ (by decide)
  omega
/-- May the key be? -/
def mayB (W k : Nat) (n : Int) : Bool := decide (0 ≤ n ∧ n ≤ W ∧ k < 2 ^ W ∧ k % 2 ^ (W - n.toNat) = 0)
theorem mayB_iff {W k : Nat} {n : Int} : mayB W k n = true ↔ ∃ m : Nat, n = (m : Int) ∧ May W k m := by
  unfold mayB May
  rw [decide_eq_true_eq]
  constructor
  · rintro ⟨h1, h2, h3, h4⟩
    exact ⟨n.toNat, by omega, by omega, h3, h4⟩
  · rintro ⟨m, rfl, h2, h3, h4⟩
    exact ⟨by omega, by omega, h3, by simpa using h4⟩
theorem mayC (t W k : Nat) (n : Int) (w : World) (h : Wid w t W) (hW : W ≤ 32) (hk : k < 4294967296) :
    Calls Try.prog 30 #[.pointer (some ⟨t, 0, none⟩), .int .u32 (k : Int), .int .i64 n] w fun e w' => e = .returned (.bool (mayB W k n)) ∧ w' = w := by
  have h' := h
  unfold Wid at h
  have hW0 : (W : Int) ≤ 32 := by omega
  have hp := Nat.two_pow_pos W
  by_cases h1 : 0 ≤ n
  · obtain ⟨n, rfl⟩ : ∃ m : Nat, n = (m : Int) := ⟨n.toNat, by omega⟩
    by_cases h2 : n ≤ W
    · have h2' : (n : Int) ≤ (W : Int) := by omega
      have hb := beyondC t W n w h' h2 hW
      have ha := u32_and_nat k (2 ^ (W - n) - 1) hk (by have := pow_le32 (show W - n ≤ 32 by omega); have := Nat.two_pow_pos (W - n); omega)
      rw [and_low] at ha
      by_cases h3 : k < 2 ^ W
      · have h3' : (k : Int) / 2 ^ W = 0 := by rw [show (k : Int) / 2 ^ W = ((k / 2 ^ W : Nat) : Int) by simp, Nat.div_eq_of_lt h3]; rfl
        obtain ⟨B, hB⟩ : ∃ B, B = mayB W k n := ⟨_, rfl⟩
        have hm : Hid (mayB W k n = decide (k % 2 ^ (W - n) = 0)) := by show _ = _; unfold mayB; simp [h2', h3]
        generalize 2 ^ (W - n) - 1 = Y at *
        obtain ⟨X, hX⟩ : ∃ X, X = k % 2 ^ (W - n) := ⟨_, rfl⟩
        rw [← hX] at ha
        have hX' : Hid (X = k % 2 ^ (W - n)) := hX
        clear hX hp h3 h1 hB
        go_enter Try.func30, Try.ntmps30
        go_wp2_with (go_at_call 33; refine hb.mono ?_; rintro e w' ⟨rfl, hw⟩; obtain rfl := hw.symm; clear hw)
        all_goals go_ret
        all_goals refine ⟨ret_same ?_, rfl⟩
        all_goals (rw [hm.out, ← hX'.out]; first | (rw [Bool.eq_iff_iff]; simp; done) | (rw [Bool.eq_iff_iff]; simp; omega))
      · have h3' : ¬ (k : Int) / 2 ^ W = 0 := by
          rw [show (k : Int) / 2 ^ W = ((k / 2 ^ W : Nat) : Int) by simp]
          have : 0 < k / 2 ^ W := Nat.div_pos (by omega) hp
          omega
        have hm : Hid (mayB W k n = false) := by show _ = _; unfold mayB; simp [h3]
        clear ha hb
        go_enter Try.func30, Try.ntmps30
        go_wp2
        all_goals go_ret
        all_goals exact ⟨ret_same (by rw [hm.out]), rfl⟩
    · have h2' : ¬ (n : Int) ≤ (W : Int) := by omega
      have h2'' : (W : Int) < (n : Int) := by omega
      have hm : Hid (mayB W k n = false) := by show _ = _; unfold mayB; simp [h2']
      go_enter Try.func30, Try.ntmps30
      go_wp2
      all_goals go_ret
      all_goals exact ⟨ret_same (by rw [hm.out]), rfl⟩
  · have hm : Hid (mayB W k n = false) := by show _ = _; unfold mayB; simp [h1]
    have h1' : n < 0 := by omega
    go_enter Try.func30, Try.ntmps30
    go_wp2
    all_goals go_ret
    all_goals exact ⟨ret_same (by rw [hm.out]), rfl⟩
set_option maxHeartbeats 1000000 in
theorem nodeC (t : Nat) (v : Value) (W M : Nat) (A : List Nd) (r f c p : Nat) (w : World) (h : Tri w t v W M A r f c) (hA : A.length ≤ 4294967296) (hp : 1 ≤ p) (hl : p ≤ A.length) :
    Calls Try.prog 32 #[.pointer (some ⟨t, 0, none⟩), .int .i64 (p : Int)] w fun e w' => e = .returned (.agg #[.int .i64 (((gt A p)).a : Int), .int .i64 (((gt A p)).b : Int), .bool ((gt A p)).h, .int .i64 ((gt A p)).v]) ∧ Below w.heap.size w w' := by
  obtain ⟨q, rfl⟩ : ∃ q, p = q + 1 := ⟨p - 1, by omega⟩
  have h1 := h.on ((Below.refl _ _).alloc (Nat.le_refl _) (.cells #[.int .i64 0, .int .i64 0, .bool false, .int .i64 0] 70))
  obtain ⟨c0, c1, c2, c3, c4, c5⟩ := blk6 h1.1
  have hlt := h.lt
  have hne : ¬ t = w.heap.size := by omega
  obtain ⟨ad, cap, rfl, hcap, hat⟩ := h1.2.1.form
  obtain ⟨g, rfl, _, hg, hc⟩ := hat (by omega)
  have hq : q < A.length := by omega
  have hc1 := hc q hq
  have he : gt A (q + 1) = A[q]'hq := by unfold gt; simp [List.getElem?_eq_getElem hq]
  rw [← he] at hc1
  obtain ⟨d, hd⟩ : ∃ d, d = gt A (q + 1) := ⟨_, rfl⟩
  rw [← hd] at hc1 ⊢
  clear hc hat he hd
  obtain ⟨n, hn⟩ : ∃ n, n = A.length := ⟨_, rfl⟩
  rw [← hn] at c2 hcap hA hq
  clear hn
  have hlt' : (q : Int) < (n : Int) := by omega
  have hn0 : (n : Int) ≤ 4294967296 := by omega
  have hwp : wrap64 (((q + 1 : Nat) : Int) - 1) = (q : Int) := by unfold wrap64; omega
  have hq1 : ((q + 1 : Nat) : Int) = (q : Int) + 1 := by omega
  rw [hq1]
  have x0 : (w.alloc (.cells #[.int .i64 0, .int .i64 0, .bool false, .int .i64 0] 70)).cell? ⟨g, q * 4, none⟩ = some (.int .i64 (d.a : Int)) := hc1 0 (by decide)
  have x1 : (w.alloc (.cells #[.int .i64 0, .int .i64 0, .bool false, .int .i64 0] 70)).cell? ⟨g, q * 4 + 1, none⟩ = some (.int .i64 (d.b : Int)) := hc1 1 (by decide)
  have x2 : (w.alloc (.cells #[.int .i64 0, .int .i64 0, .bool false, .int .i64 0] 70)).cell? ⟨g, q * 4 + 2, none⟩ = some (.bool d.h) := hc1 2 (by decide)
  have x3 : (w.alloc (.cells #[.int .i64 0, .int .i64 0, .bool false, .int .i64 0] 70)).cell? ⟨g, q * 4 + 3, none⟩ = some (.int .i64 d.v) := hc1 3 (by decide)
  clear hc1 h h1 hq1 hwp
  have hZZ := blk_new w (.cells #[.int .i64 0, .int .i64 0, .bool false, .int .i64 0] 70)
  go_enter Try.func32, Try.ntmps32
  go_wp2_with (refine wpList_store_blk rfl 70 (.tmp 4) (.tmp 12) rfl w.heap.size 0 #[.int .i64 (d.a : Int), .int .i64 (d.b : Int), .bool d.h, .int .i64 d.v] #[.int .i64 (d.a : Int), .int .i64 (d.b : Int), .bool d.h, .int .i64 d.v] rfl rfl 70 _ hZZ (Nat.le_of_ble_eq_true rfl) rfl (by kernel_rfl) rfl ?_; intro w8 hw8 how8)
  exact bodyPost_ret (results_blk Try.results32 rfl hw8 Try.underlying70 rfl (by kernel_rfl)) rfl ⟨rfl, ((Below.refl _ _).alloc (Nat.le_refl _) _).trans (how8.below (Nat.le_refl _))⟩
end Go.Proofs.Ytfbkjghipahipaa
