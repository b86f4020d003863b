/-
  PkAI: ExPn2 ExPa2 ExPs2 ExPk4 ExPo4 ExPlM ExPlR2, one behind the other (tools/pack.py).
-/
import Derived.Test.YtfpmljgmfapoiaaGreatPkAH
import Derived.Test.YtfpmljgmfapoiaaGreatPkAD
import Derived.Deep.RegionHeld3
import Derived.Deep.DrawnRows
import Derived.WalkMore
import Derived.OneCell
import Derived.Test.YtfpmljgmfapoiaaGreatPkAA
/-
  Bits of stems as the code reckons them; the greedy stems, one step. No program is named here.
-/
namespace Go.Proofs.YtfpmljgmfapoiaaGreat.Xp
open Go.RowKit
set_option linter.unusedVariables false

theorem tail_is (n : Nat) (h : n ≤ 16) : 65535 / 2 ^ n = 2 ^ (16 - n) - 1 :=
  (by decide +kernel : ∀ n, n < 17 → 65535 / 2 ^ n = 2 ^ (16 - n) - 1) n (by omega)
theorem tail_int (n : Nat) (h : n ≤ 16) : (65535 : Int) / 2 ^ n = ((2 ^ (16 - n) - 1 : Nat) : Int) := by
  rw [← tail_is n h]
  simp
theorem two_pos (k : Nat) : 0 < 2 ^ k := Nat.pow_pos (by decide)
theorem two_le16 {k : Nat} (h : k ≤ 16) : 2 ^ k ≤ 65536 := pow_le (f := k) (g := 16) h
/-- The mask of one bit more. -/
theorem wider_nat (j : Nat) (h : j ≤ 16) : (2 ^ j - 1) * 2 % 65536 ||| 1 = (2 ^ (j + 1) - 1) % 65536 :=
  (by decide +kernel : ∀ j, j < 17 → (2 ^ j - 1) * 2 % 65536 ||| 1 = (2 ^ (j + 1) - 1) % 65536) j (by omega)
theorem wider_lt (j : Nat) (h : j < 16) : (2 ^ (j + 1) - 1) % 65536 = 2 ^ (j + 1) - 1 :=
  (by decide +kernel : ∀ j, j < 16 → (2 ^ (j + 1) - 1) % 65536 = 2 ^ (j + 1) - 1) j h
theorem andNot_high (q k : Nat) (hq : q < 65536) (hk : k ≤ 16) : q &&& (65535 - (2 ^ k - 1)) = q / 2 ^ k * 2 ^ k := by
  have e : 65535 - (2 ^ k - 1) = (2 ^ (16 - k) - 1) <<< k :=
    (by decide +kernel : ∀ k, k < 17 → 65535 - (2 ^ k - 1) = (2 ^ (16 - k) - 1) <<< k) k (by omega)
  rw [e, ← Nat.shiftRight_eq_div_pow, ← Nat.shiftLeft_eq]
  apply Nat.eq_of_testBit_eq
  intro i
  rw [Nat.testBit_and, Nat.testBit_shiftLeft, Nat.testBit_shiftLeft, Nat.testBit_two_pow_sub_one, Nat.testBit_shiftRight]
  by_cases h1 : k ≤ i
  · by_cases h2 : i < 16
    · have a1 : decide (i ≥ k) = true := decide_eq_true h1
      have a2 : decide (i - k < 16 - k) = true := decide_eq_true (by omega)
      rw [a1, a2, show k + (i - k) = i by omega]
      simp
    · have : q.testBit i = false := Nat.testBit_lt_two_pow (Nat.lt_of_lt_of_le hq (by
        have : 2 ^ 16 ≤ 2 ^ i := Nat.pow_le_pow_right (by decide) (by omega)
        simpa using this))
      rw [show k + (i - k) = i by omega, this]
      simp
  · have a1 : decide (i ≥ k) = false := decide_eq_false (by omega)
    rw [a1]
    simp
theorem grd_len : ∀ k a n, (grd k a n).length ≤ k
  | 0, a, n => Nat.le_refl _
  | k + 1, a, n => by
    unfold grd
    split
    · exact Nat.zero_le _
    · rw [List.length_cons]
      exact Nat.succ_le_succ (grd_len k _ _)
theorem grds_len (l : List (Nat × Nat)) : (grds l).length ≤ l.length * 65536 := by
  induction l with
  | nil => exact Nat.zero_le _
  | cons s l ih =>
    have e : grds (s :: l) = grd 65536 s.1 (s.2 + 1 - s.1) ++ grds l := rfl
    rw [e, List.length_append, List.length_cons]
    have := grd_len 65536 s.1 (s.2 + 1 - s.1)
    omega
/-- What has been met, and what is to come. -/
def Gone (lo hi : Nat) (a : Nat) (pre : List (Nat × Nat)) : Prop := ∃ k, hi + 1 - a ≤ k ∧ grd 65536 lo (hi + 1 - lo) = pre ++ grd k a (hi + 1 - a)
theorem Gone.start (lo hi : Nat) (h : hi < 65536) : Gone lo hi lo [] := ⟨65536, by omega, rfl⟩
theorem Gone.step {lo hi a : Nat} {pre : List (Nat × Nat)} (h : Gone lo hi a pre) (ha : a ≤ hi) : Gone lo hi (a + 2 ^ mf a (hi + 1 - a) 16) (pre ++ [(a, 16 - mf a (hi + 1 - a) 16)]) := by
  obtain ⟨k, hk, e⟩ := h
  obtain ⟨k', rfl⟩ : ∃ k', k = k' + 1 := ⟨k - 1, by omega⟩
  rw [grd_succ k' a _ (by omega)] at e
  have hp := two_pos (mf a (hi + 1 - a) 16)
  refine ⟨k', by omega, ?_⟩
  rw [e, List.append_assoc, List.singleton_append, show hi + 1 - (a + 2 ^ mf a (hi + 1 - a) 16) = hi + 1 - a - 2 ^ mf a (hi + 1 - a) 16 by omega]
theorem Gone.done {lo hi a : Nat} {pre : List (Nat × Nat)} (h : Gone lo hi a pre) (ha : hi < a) : pre = grd 65536 lo (hi + 1 - lo) := by
  obtain ⟨k, hk, e⟩ := h
  rw [show hi + 1 - a = 0 by omega, grd_zero, List.append_nil] at e
  exact e.symm
theorem Gone.len {lo hi a : Nat} {pre : List (Nat × Nat)} (h : Gone lo hi a pre) : pre.length ≤ 65536 := by
  obtain ⟨k, hk, e⟩ := h
  have := congrArg List.length e
  rw [List.length_append] at this
  have := grd_len 65536 lo (hi + 1 - lo)
  omega
theorem mf_bd {a hi : Nat} (h : a ≤ hi) : mf a (hi + 1 - a) 16 ≤ 16 ∧ a + 2 ^ mf a (hi + 1 - a) 16 ≤ hi + 1 := by
  obtain ⟨h1, h2, h3, h4⟩ := mf_is a (hi + 1 - a) (by omega) 16
  exact ⟨h1, by omega⟩
end Go.Proofs.YtfpmljgmfapoiaaGreat.Xp
/-
  tail, Check, Has, Span of package expand: what they hand back.
-/
namespace Go.Proofs.YtfpmljgmfapoiaaGreat.Xp
open Go.RowKit
set_option linter.unusedVariables false
set_option linter.unusedSimpArgs false
attribute [local go_sem ↓] Go.wp_at_zero Go.wp_at_succ

/-- The last k bits, all set. -/
def mk (k : Nat) : Nat := 2 ^ k - 1
theorem mk_lt {k : Nat} (h : k ≤ 16) : mk k < 65536 := by
  have := two_le16 h
  have := two_pos k
  unfold mk; omega
theorem and_mk (b k : Nat) (hb : b < 65536) (hk : k ≤ 16) : bits .and .u16 (b : Int) (mk k : Int) = ((b % 2 ^ k : Nat) : Int) := by
  rw [u16_and_nat b (mk k) hb (mk_lt hk)]
  unfold mk
  rw [and_low]
theorem andNot_mk (q k : Nat) (hq : q < 65536) (hk : k ≤ 16) : bits .andNot .u16 (q : Int) (mk k : Int) = ((q / 2 ^ k * 2 ^ k : Nat) : Int) := by
  rw [u16_andNot_nat q (mk k) hq (mk_lt hk)]
  unfold mk
  rw [andNot_high q k hq hk]
theorem tailT (n : Nat) (hn : n ≤ 16) (w : World) :
    Calls Tryz.prog 95 #[.int .i64 n] w fun e w' => e = .returned (.int .u16 (mk (16 - n) : Int)) ∧ w' = w := by
  have h0 : (0 : Int) ≤ (n : Int) := by omega
  have h1 : (n : Int) ≤ 16 := by omega
  have ht : (65535 : Int) / 2 ^ n = (mk (16 - n) : Int) := tail_int n hn
  go_enter Tryz.func95, Tryz.ntmps95
  go_wp2
  go_ret
  exact ⟨rfl, rfl⟩
end Go.Proofs.YtfpmljgmfapoiaaGreat.Xp
/-
  shortest of package expand: the greatest stem from a port on, up to another.
-/
namespace Go.Proofs.YtfpmljgmfapoiaaGreat.Xp
open Go.RowKit
set_option linter.unusedVariables false
set_option linter.unusedSimpArgs false

theorem or_wider (j : Nat) (h : j < 16) : bits .or .u16 ((mk j : Int) * 2) 1 = (mk (j + 1) : Int) := by
  have h1 := wider_nat j (by omega)
  have h2 := mk_lt (show j + 1 ≤ 16 by omega)
  have hp := two_pos j
  have e : mk (j + 1) = mk j * 2 + 1 := by unfold mk; rw [Nat.pow_succ]; omega
  have h3 : mk j * 2 < 65536 := by omega
  have h4 := u16_or_nat (mk j * 2) 1 h3 (by decide)
  have h5 : mk j * 2 ||| 1 = mk (j + 1) := by
    have : (2 ^ j - 1) * 2 % 65536 = mk j * 2 := Nat.mod_eq_of_lt h3
    rw [this, wider_lt j h] at h1
    exact h1
  rw [h5] at h4
  simpa using h4
theorem mf_fin {a hi j : Nat} (h : a ≤ hi) (hj : j ≤ 16) (hd : 2 ^ j ∣ a ∧ 2 ^ j ≤ hi + 1 - a) (hx : j = 16 ∨ a % 2 ^ (j + 1) ≠ 0 ∨ hi - a < mk (j + 1)) : (16 : Int) - (j : Int) = ((16 - mf a (hi + 1 - a) 16 : Nat) : Int) := by
  rw [mf_uniq (f := j) (by omega) hj hd.1 hd.2]
  · omega
  · rcases hx with hx | hx | hx
    · exact .inl hx
    · exact .inr fun hc => hx (Nat.mod_eq_zero_of_dvd hc.1)
    · refine .inr fun hc => ?_
      have := two_pos (j + 1)
      unfold mk at hx
      omega
theorem mf_next {a hi j : Nat} (h : a ≤ hi) (h1 : a % 2 ^ (j + 1) = 0) (h2 : ¬ hi - a < mk (j + 1)) : 2 ^ (j + 1) ∣ a ∧ 2 ^ (j + 1) ≤ hi + 1 - a := by
  refine ⟨Nat.dvd_of_mod_eq_zero h1, ?_⟩
  have := two_pos (j + 1)
  unfold mk at h2
  omega
theorem mk_step {j : Nat} (h : j < 16) : mk j < mk (j + 1) ∧ mk (j + 1) < 65536 := by
  have hp := two_pos j
  have e : mk (j + 1) = mk j * 2 + 1 := by unfold mk; rw [Nat.pow_succ]; omega
  exact ⟨by omega, mk_lt (by omega)⟩
set_option maxHeartbeats 1000000 in
set_option maxRecDepth 20000 in
theorem shortT (a hi : Nat) (h : a ≤ hi) (hh : hi < 65536) (w : World) :
    Calls Tryz.prog 94 #[.int .u16 a, .int .u16 hi] w fun e w' => e = .returned (.agg #[.int .u16 (a : Nat), .int .i64 ((16 - mf a (hi + 1 - a) 16 : Nat) : Int)]) ∧ Below w.heap.size w w' := by
  have ha : a < 65536 := by omega
  go_enter Tryz.func94, Tryz.ntmps94
  go_wp2
  go_step3
  go_wp2
  go_step3
  go_wp2
  go_loopw [6] (fun bv wr => ∃ j : Nat, j ≤ 16 ∧ bv = .int .u16 (mk j : Int) ∧ wr.cell? ⟨w.heap.size + 1, 0, none⟩ = some (.int .u16 a) ∧ wr.cell? ⟨w.heap.size + 1, 1, none⟩ = some (.int .i64 (16 - (j : Int))) ∧ wr.frozen? ⟨w.heap.size + 1, 1, none⟩ = false ∧ wr.cell? ⟨w.heap.size, 0, none⟩ = some (.int .u16 0) ∧ wr.cell? ⟨w.heap.size, 1, none⟩ = some (.int .i64 0) ∧ wr.frozen? ⟨w.heap.size, 0, none⟩ = false ∧ wr.frozen? ⟨w.heap.size, 1, none⟩ = false ∧ Hid (2 ^ j ∣ a ∧ 2 ^ j ≤ hi + 1 - a) ∧ Hid (Below w.heap.size w wr)) (fun bv _ => 65535 - (intOf bv).toNat)
  case atStart => exact ⟨0, by omega, rfl, by simp [go_sem], by simp [go_sem], by simp [go_sem], by simp [go_sem], by simp [go_sem], by simp [go_sem], by simp [go_sem], ⟨by simp, by omega⟩, by show Below _ _ _; (repeat (first | assumption | exact Below.refl _ _ | refine Below.drew ?_ | refine bel_drewN ?_ _ | refine Below.setCell ?_ (by first | omega | (simp; done) | (simp; omega)) _ | refine Below.alloc ?_ (by first | omega | (simp; done) | (simp; omega)) _ | refine bel_of ?_ (by assumption)))⟩
  case round =>
    obtain ⟨j, hj, rfl, c0, c1, f1, r0, r1, g0, g1, hd, hb⟩ := hrel
    have hlt : (mk j : Int) < 65536 := by have := mk_lt hj; omega
    have h0 : (0 : Int) ≤ (mk j : Int) := by omega
    by_cases h16 : j = 16
    · have e16 : (mk j : Int) = 65535 := by rw [h16]; rfl
      have hO : bits .or .u16 65534 1 = 65535 := by decide +kernel
      have HF : Hid ((16 : Int) - (j : Int) = ((16 - mf a (hi + 1 - a) 16 : Nat) : Int)) := mf_fin h hj hd.out (.inl h16)
      clear h16
      rw [e16]
      go_wp2
      rw [Exit.noGoto_ret]
      exact bodyPost_ret (v := .agg #[.int .u16 (a : Nat), .int .i64 (16 - (j : Int))]) (by simp [results, Tryz.results94, go_sem, *]) rfl ⟨by rw [HF.out], by have := hb.out; (repeat (first | assumption | exact Below.refl _ _ | refine Below.drew ?_ | refine bel_drewN ?_ _ | refine Below.setCell ?_ (by first | omega | (simp; done) | (simp; omega)) _ | refine Below.alloc ?_ (by first | omega | (simp; done) | (simp; omega)) _ | refine bel_of ?_ (by assumption)))⟩
    · have hj' : j < 16 := by omega
      have ⟨s1, s2⟩ := mk_step hj'
      have hO := or_wider j hj'
      have hA := and_mk a (j + 1) ha (by omega)
      have hx1 : a % 2 ^ (j + 1) = 0 → ¬ hi - a < mk (j + 1) → Hid (2 ^ (j + 1) ∣ a ∧ 2 ^ (j + 1) ≤ hi + 1 - a) := fun h1 h2 => mf_next h h1 h2
      have hx2 : a % 2 ^ (j + 1) ≠ 0 ∨ hi - a < mk (j + 1) → Hid ((16 : Int) - (j : Int) = ((16 - mf a (hi + 1 - a) 16 : Nat) : Int)) := fun h1 => mf_fin h hj hd.out (.inr h1)
      have h2 : (mk j : Int) * 2 < 65536 := by
        have hp := two_pos j
        have e : mk (j + 1) = mk j * 2 + 1 := by unfold mk; rw [Nat.pow_succ]; omega
        omega
      obtain ⟨y, hy⟩ : ∃ y : Nat, y = mk (j + 1) := ⟨_, rfl⟩
      obtain ⟨q, hq⟩ : ∃ q : Nat, q = mk j := ⟨_, rfl⟩
      obtain ⟨x, hx⟩ : ∃ x : Nat, x = a % 2 ^ (j + 1) := ⟨_, rfl⟩
      rw [← hy, ← hx] at hx1 hx2 hA
      rw [← hy, ← hq] at hO s1
      rw [← hy] at s2
      rw [← hq] at h2 hlt h0 ⊢
      have HY : Hid (y = mk (j + 1)) := hy
      clear hy hq hx
      have e16 : (q : Int) < 65535 := by omega
      have e17 : ((q : Int) == 65535) = false := by rw [beq_eq_false_iff_ne]; omega
      have e18 : ¬ q = 65535 := by omega
      have hW : IntKind.u16.wrap ((q : Int) * 2) = (q : Int) * 2 := by
        simp [IntKind.wrap, IntKind.signed, IntKind.bits]
        omega
      have hha : (a : Int) ≤ (hi : Int) := by omega
      have hs2 : (y : Int) < 65536 := by omega
      have hs1 : (q : Int) < (y : Int) := by omega
      by_cases hx : x = 0
      · subst hx
        have hA' : bits .and .u16 (a : Int) (y : Int) = 0 := hA
        clear hA
        by_cases hy : hi - a < y
        · have HF := hx2 (.inr hy)
          have hy' : (hi : Int) - (a : Int) < (y : Int) := by omega
          clear hx1 hx2 hy s1 s2 hd hj' h hh ha
          go_wp2
          rw [Exit.noGoto_ret]
          exact bodyPost_ret (v := .agg #[.int .u16 (a : Nat), .int .i64 (16 - (j : Int))]) (by simp [results, Tryz.results94, go_sem, *]) rfl ⟨by rw [HF.out], by have := hb.out; (repeat (first | assumption | exact Below.refl _ _ | refine Below.drew ?_ | refine bel_drewN ?_ _ | refine Below.setCell ?_ (by first | omega | (simp; done) | (simp; omega)) _ | refine Below.alloc ?_ (by first | omega | (simp; done) | (simp; omega)) _ | refine bel_of ?_ (by assumption)))⟩
        · have HF := hx1 rfl hy
          have hy' : (y : Int) ≤ (hi : Int) - (a : Int) := by omega
          have hy2 : ¬ (hi : Int) - (a : Int) < (y : Int) := by omega
          have hj0 : (j : Int) < 16 := by omega
          have hhi : (hi : Int) < 65536 := by omega
          have ha0 : (0 : Int) ≤ (a : Int) := by omega
          have hj1 : (0 : Int) ≤ (j : Int) := by omega
          clear hx1 hx2 hy s1 s2 h hh ha
          go_wp2
          go_roundw
          case rel =>
            rw [show (16 : Int) - (j : Int) - 1 = 16 - ((j + 1 : Nat) : Int) by omega]
            exact ⟨j + 1, by omega, by rw [HY.out], (World.cell?_setCell_other _ _ _ _ (by simp)).trans c0, World.cell?_setCell_same _ _ _ c1, by rw [World.frozen?_setCell]; exact f1, (World.cell?_setCell_other _ _ _ _ (by simp)).trans r0, (World.cell?_setCell_other _ _ _ _ (by simp)).trans r1, by rw [World.frozen?_setCell]; exact g0, by rw [World.frozen?_setCell]; exact g1, HF, by show Below _ _ _; have := hb.out; (repeat (first | assumption | exact Below.refl _ _ | refine Below.drew ?_ | refine bel_drewN ?_ _ | refine Below.setCell ?_ (by first | omega | (simp; done) | (simp; omega)) _ | refine Below.alloc ?_ (by first | omega | (simp; done) | (simp; omega)) _ | refine bel_of ?_ (by assumption)))⟩
          case measure => simp [intOf]; omega
      · have HF := hx2 (.inl hx)
        have hne2 : (0 : Int) < (x : Int) := by omega
        have hne3 : ((x : Int) != 0) = true := by simpa using hx
        have hne4 : ¬ x = 0 := hx
        clear hx1 hx2 hx s1 s2 h hh ha
        go_wp2
        rw [Exit.noGoto_ret]
        exact bodyPost_ret (v := .agg #[.int .u16 (a : Nat), .int .i64 (16 - (j : Int))]) (by simp [results, Tryz.results94, go_sem, *]) rfl ⟨by rw [HF.out], by have := hb.out; (repeat (first | assumption | exact Below.refl _ _ | refine Below.drew ?_ | refine bel_drewN ?_ _ | refine Below.setCell ?_ (by first | omega | (simp; done) | (simp; omega)) _ | refine Below.alloc ?_ (by first | omega | (simp; done) | (simp; omega)) _ | refine bel_of ?_ (by assumption)))⟩
end Go.Proofs.YtfpmljgmfapoiaaGreat.Xp
/-
  The closures that are handed to climb; climb; cover; Of and Count of package expand.
-/
namespace Go.Proofs.YtfpmljgmfapoiaaGreat.Xp
open Go.RowKit
set_option linter.unusedVariables false
set_option linter.unusedSimpArgs false

/-- The variable in block B holds the row of a list, whose blocks lie behind it. -/
def Met (B : Nat) (w : World) (l : List (Nat × Nat)) : Prop := ∃ v, w.heap[B]? = some (.cells #[v] 163 (0, 0)) ∧ RowT w (B + 1) v l
theorem Met.on {B : Nat} {w w1 : World} {l : List (Nat × Nat)} (h : Met B w l) (hb : Below w.heap.size w w1) : Met B w1 l := by
  obtain ⟨v, h1, h2⟩ := h
  exact ⟨v, by rw [hb.block B (lt_of_block h1)]; exact h1, h2.on hb⟩
theorem Met.alloc {B : Nat} {w : World} {l : List (Nat × Nat)} (h : Met B w l) (o : Obj) : Met B (w.alloc o) l := h.on ((Below.refl _ _).alloc (Nat.le_refl _) o)
/-- What a call that writes the variable in block B, and the row behind it, leaves as it was. -/
def Kept (B : Nat) (w w' : World) : Prop := Below B w w' ∧ ∀ k, k < w.heap.size → k ≠ B → (∀ v, w.heap[B]? = some (.cells #[v] 163 (0, 0)) → v.ownBlock ≠ some k) → w'.heap[k]? = w.heap[k]?
theorem row_type {w : World} {b k : Nat} {v : Value} {l : List (Nat × Nat)} {cs : Array Value} {f : Nat × Nat} (h : RowT w b v l) (hk : w.heap[k]? = some (.cells cs 48 f)) : v.ownBlock ≠ some k := by
  intro e
  rcases h.2 with ⟨hv, _⟩ | ⟨g, cap, cur, hv, hg, hh, r⟩
  · subst hv; cases e
  · subst hv
    have : g = k := by simpa [Value.ownBlock] using e
    subst this
    rw [hh] at hk
    simp at hk
theorem kept_span {B : Nat} {w w' : World} {l : List (Nat × Nat)} {k : Nat} {cs : Array Value} {f : Nat × Nat} (hm : Met B w l) (h : Kept B w w') (hne : k ≠ B) (hk : w.heap[k]? = some (.cells cs 48 f)) : w'.heap[k]? = some (.cells cs 48 f) := by
  obtain ⟨v, h1, h2⟩ := hm
  rw [h.2 k (lt_of_block hk) hne ?_]
  · exact hk
  · intro v' h'
    rw [h1] at h'
    simp at h'
    subst h'
    exact row_type h2 hk
/-- A block that was made behind the row stays. -/
theorem kept_new {B : Nat} {w w1 w' : World} {l : List (Nat × Nat)} {k : Nat} (hm : Met B w l) (hb : Below w.heap.size w w1) (h : Kept B w1 w') (hk : w.heap.size ≤ k) (hk1 : k < w1.heap.size) : w'.heap[k]? = w1.heap[k]? := by
  obtain ⟨v, h1, h2⟩ := hm
  have hB := lt_of_block h1
  refine h.2 k hk1 (by omega) ?_
  intro v' h'
  rw [hb.block B hB, h1] at h'
  simp at h'
  subst h'
  intro e
  have := (h2.lt k e).2
  omega
theorem two_allocs {W : World} {o1 o2 : Obj} {k : Nat} (h : k < W.heap.size) : ((W.alloc o1).alloc o2).heap[k]? = W.heap[k]? := by
  rw [Below.heap_alloc _ _ _ (by simp; omega), Below.heap_alloc _ _ _ h]
theorem keep_block {B : Nat} {W w5 : World} {v : Value} {l : List (Nat × Nat)} {o1 o2 : Obj} (hB : W.heap[B]? = some (.cells #[v] 163 (0, 0))) (hR : RowT W (B + 1) v l) (hg : ((W.alloc o1).alloc o2).grownBy w5 v.ownBlock) : w5.heap[B]? = some (.cells #[v] 163 (0, 0)) := by
  have hlt := lt_of_block hB
  rw [hg.block B (by simp; omega) (fun e => by have := (hR.lt B e.symm).1; omega), two_allocs hlt]
  exact hB
theorem keep_done {B : Nat} {W w5 : World} {v v5 : Value} {l l' : List (Nat × Nat)} {o1 o2 : Obj} (hB : W.heap[B]? = some (.cells #[v] 163 (0, 0))) (hR : RowT W (B + 1) v l) (hg : ((W.alloc o1).alloc o2).grownBy w5 v.ownBlock) (h5 : RowT w5 (B + 1) v5 l') :
    Met B (w5.setCell ⟨B, 0, none⟩ v5) l' ∧ Kept B W (w5.setCell ⟨B, 0, none⟩ v5) := by
  have hlt := lt_of_block hB
  have hb := keep_block hB hR hg
  refine ⟨⟨v5, one_setCell hb, ownsRow_setCell_other h5 (fun e => by have := (h5.lt B e).1; omega) _⟩, ?_, ?_⟩
  · refine Below.setCell (p := ⟨B, 0, none⟩) ?_ (Nat.le_refl B) _
    refine Below.grown (((Below.refl B W).alloc (by omega) o1).alloc (by simp; omega) o2) hg (by simp; omega) ?_
    intro k hk
    have := (hR.lt k hk).1
    omega
  · intro k hk hne hv
    rw [Below.heap_setCell _ _ _ _ hne, hg.block k (by simp; omega) (fun e => hv v hB e.symm), two_allocs hk]
set_option maxHeartbeats 1000000 in
theorem keepT (B b n : Nat) (l : List (Nat × Nat)) (W : World) (h : Met B W l) (hl : l.length < 4294967296) :
    Calls Tryz.prog 109 #[.agg #[.int .u16 (b : Nat), .int .i64 (n : Nat)], .pointer (some ⟨B, 0, none⟩)] W fun e W' => e = .returned (.tuple #[]) ∧ Met B W' (l ++ [(b, n)]) ∧ Kept B W W' := by
  obtain ⟨v, hB, hR⟩ := h
  have hlt := lt_of_block hB
  obtain ⟨ad, cap, rfl, hcap, hat⟩ := hR.form
  have cB : W.cell? ⟨B, 0, none⟩ = some (.slice ad l.length cap) := cell_of_one hB
  have hne : (Value.slice ad l.length cap).ownBlock ≠ some B := fun e => by have := (hR.lt B e).1; omega
  have HR : Hid (RowT W (B + 1) (.slice ad l.length cap) l) := hR
  have HB : Hid (W.heap[B]? = some (.cells #[.slice ad l.length cap] 163 (0, 0))) := hB
  have HN : Hid ((Value.slice ad l.length cap).ownBlock ≠ some B) := hne
  clear hR hB hat hne hcap
  go_enter Tryz.func109, Tryz.ntmps109
  go_wp2_with (at_builtin; refine wpList_append_stems rfl (.tmp 3) (.tmp 5) rfl (B + 1) _ l rfl ((HR.out.alloc _).alloc _) (B + 1) _ [(b, n)] rfl (RowT.one2 (W.alloc (.cells #[.int .u16 (b : Nat), .int .i64 (n : Nat)] 173)) (B + 1) b n (B := W.heap.size + 1) (by simp) rfl rfl (by simp; omega)) (by simp; omega) (by simp; omega) ?_; intro v5 w5 hrow5 hgr5; obtain ⟨ad5, cap5, rfl, _, _⟩ := hrow5.form; have h5 : w5.heap[B]? = some (.cells #[.slice ad l.length cap] 163 (0, 0)) := keep_block HB.out HR.out hgr5; have c5 := cell_of_one h5; have f5 := free_of_one h5; have H5 : Hid (w5.heap[B]? = some (.cells #[.slice ad l.length cap] 163 (0, 0))) := h5; clear h5)
  go_end0
  have hd := keep_done HB.out HR.out hgr5 hrow5
  rw [List.length_append] at hd
  exact ⟨rfl, hd⟩
/-- The variable in block B counts. -/
def Tal (B : Nat) (w : World) (n : Nat) : Prop := w.heap[B]? = some (.cells #[.int .i64 n] 3 (0, 0))
theorem Tal.on {B : Nat} {w w1 : World} {n : Nat} (h : Tal B w n) (hb : Below w.heap.size w w1) : Tal B w1 n := by
  unfold Tal at *
  rw [hb.block B (lt_of_block h)]; exact h
theorem Tal.alloc {B : Nat} {w : World} {n : Nat} (h : Tal B w n) (o : Obj) : Tal B (w.alloc o) n := h.on ((Below.refl _ _).alloc (Nat.le_refl _) o)
theorem tallyT (B b n k : Nat) (W : World) (h : Tal B W k) (hk : k < 4294967296) :
    Calls Tryz.prog 82 #[.agg #[.int .u16 (b : Nat), .int .i64 (n : Nat)], .pointer (some ⟨B, 0, none⟩)] W fun e W' => e = .returned (.tuple #[]) ∧ Tal B W' (k + 1) ∧ Below B W W' ∧ ∀ x, x < W.heap.size → x ≠ B → W'.heap[x]? = W.heap[x]? := by
  have hlt := lt_of_block h
  have cB : W.cell? ⟨B, 0, none⟩ = some (.int .i64 k) := cell_of_one h
  have fB : W.frozen? ⟨B, 0, none⟩ = false := free_of_one h
  have HB : Hid (Tal B W k) := h
  clear h
  go_enter Tryz.func82, Tryz.ntmps82
  go_wp2
  go_end0
  have hz : (W.setCell ⟨B, 0, none⟩ (.int .i64 ((k : Int) + 1))).heap.size = W.heap.size := by simp
  refine ⟨rfl, ?_, ?_, ?_⟩
  · unfold Tal
    rw [Below.heap_alloc _ _ _ (by omega)]
    exact one_setCell HB.out
  · exact (Below.setCell (p := ⟨B, 0, none⟩) (Below.refl B W) (Nat.le_refl B) _).alloc (by omega) _
  · intro x hx hne
    rw [Below.heap_alloc _ _ _ (by omega), Below.heap_setCell _ _ _ _ hne]
set_option maxHeartbeats 1000000 in
theorem climbK (lo hi B : Nat) (l0 : List (Nat × Nat)) (w : World) (h : lo ≤ hi) (hh : hi < 65536) (hM : Met B w l0) (hl : l0.length + 65536 ≤ 4294967296) :
    Calls Tryz.prog 81 #[.agg #[.int .u16 lo, .int .u16 hi], .func (.func 109) #[] #[.pointer (some ⟨B, 0, none⟩)]] w fun e w' => e = .returned (.tuple #[]) ∧ Met B w' (l0 ++ grd 65536 lo (hi + 1 - lo)) ∧ Below B w w' := by
  have hBlt : B < w.heap.size := (by obtain ⟨v, h1, _⟩ := hM; exact lt_of_block h1)
  have HM : Hid (Met B w l0) := hM
  clear hM
  go_enter Tryz.func81, Tryz.ntmps81
  go_wp2
  go_loopw [4] (fun iv wr => ∃ (a : Nat) (pre : List (Nat × Nat)), a ≤ hi + 1 ∧ iv = .int .i64 a ∧ Hid (wr.heap[w.heap.size]? = some (.cells #[.int .u16 lo, .int .u16 hi] 48 (0, 0))) ∧ Hid (Gone lo hi a pre) ∧ Hid (Met B wr (l0 ++ pre)) ∧ Hid (Below B w wr)) (fun iv _ => hi + 1 - (intOf iv).toNat)
  case atStart => exact ⟨lo, [], by omega, rfl, heap_alloc_new _ _, Gone.start lo hi hh, by show Met B _ (l0 ++ []); rw [List.append_nil]; exact HM.out.alloc _, by show Below _ _ _; (repeat (first | assumption | exact Below.refl _ _ | refine Below.drew ?_ | refine bel_drewN ?_ _ | refine Below.setCell ?_ (by first | omega | (simp; done) | (simp; omega)) _ | refine Below.alloc ?_ (by first | omega | (simp; done) | (simp; omega)) _ | refine bel_of ?_ (by assumption)))⟩
  case round =>
    obtain ⟨a, pre, ha, rfl, hbox, hgo, hmet, hbl⟩ := hrel
    have y1 : wr.cell? ⟨w.heap.size, 1, none⟩ = some (.int .u16 hi) := by simp [World.cell?, hbox.out]
    have hz : w.heap.size < wr.heap.size := lt_of_block hbox.out
    by_cases hle : a ≤ hi
    · have hle' : (a : Int) ≤ (hi : Int) := by omega
      have ha6 : (a : Int) < 65536 := by omega
      have ha0 : (0 : Int) ≤ (a : Int) := by omega
      have hst : Hid (Gone lo hi (a + 2 ^ mf a (hi + 1 - a) 16) (pre ++ [(a, 16 - mf a (hi + 1 - a) 16)])) := hgo.out.step hle
      have hln : Hid ((l0 ++ pre).length < 4294967296) := by
        show _ < _
        have := hst.out.len
        simp at this ⊢
        omega
      obtain ⟨m1, m2⟩ := mf_bd hle
      have hsh := fun W => shortT a hi hle hh W
      generalize mf a (hi + 1 - a) 16 = f at *
      obtain ⟨L, hL⟩ : ∃ L : Nat, L = 16 - f := ⟨_, rfl⟩
      rw [← hL] at hst hsh
      have hL16 : L ≤ 16 := by omega
      have hf : Hid (f = 16 - L) := by show _ = _; omega
      have hmk : Hid (mk (16 - L) + 1 = 2 ^ f) := by
        show _ = _
        rw [← hf.out]
        have := two_pos f
        unfold mk; omega
      have hmk2 : Hid (a + (mk (16 - L) + 1) ≤ hi + 1) := by show _ ≤ _; rw [hmk.out]; exact m2
      clear m1 m2 hL
      go_wp2_with (fail)
      refine (hsh _).mono ?_
      rintro e w1 ⟨rfl, hb1⟩
      have hz1 := hb1.size
      have hmet1 : Hid (Met B w1 (l0 ++ pre)) := hmet.out.on hb1
      have hbox1 : Hid (w1.heap[w.heap.size]? = some (.cells #[.int .u16 lo, .int .u16 hi] 48 (0, 0))) := by show _ = _; rw [hb1.block _ hz]; exact hbox.out
      have hbl1 : Hid (Below B w w1) := hbl.out.trans (hb1.mono (by omega))
      clear hb1 hbox hmet hbl y1 hsh
      go_wp2_with (fail)
      refine (keepT B a L (l0 ++ pre) _ (hmet1.out.alloc _) hln.out).mono ?_
      rintro e w2 ⟨rfl, hmet2, hk2⟩
      have hbk : w2.heap[w1.heap.size]? = some (.cells #[.int .u16 a, .int .i64 L] 173 (0, 0)) := (by rw [kept_new hmet1.out ((Below.refl _ _).alloc (Nat.le_refl _) _) hk2 (Nat.le_refl _) (by simp)]; exact heap_alloc_new _ _)
      have t1 : w2.cell? ⟨w1.heap.size, 1, none⟩ = some (.int .i64 L) := by simp [World.cell?, hbk]
      have hbox2 : Hid (w2.heap[w.heap.size]? = some (.cells #[.int .u16 lo, .int .u16 hi] 48 (0, 0))) := kept_span (hmet1.out.alloc _) hk2 (by omega) (by rw [Below.heap_alloc _ _ _ (by omega)]; exact hbox1.out)
      have hbl2 : Hid (Below B w w2) := (hbl1.out.alloc (by omega) _).trans hk2.1
      have HMet : Hid (Met B w2 (l0 ++ pre ++ [(a, L)])) := hmet2
      have hmkl : (mk (16 - L) : Int) < 65536 := by have := mk_lt (show 16 - L ≤ 16 by omega); omega
      have hmk0 : (0 : Int) ≤ (mk (16 - L) : Int) := by omega
      clear hbk hk2 hmet2 hmet1 hbox1 hbl1
      go_wp2_with (go_at_call 95; refine (tailT L hL16 _).mono ?_; rintro e w' ⟨rfl, hw⟩; obtain rfl := hw.symm; clear hw)
      go_roundw
      case rel => exact ⟨a + 2 ^ f, pre ++ [(a, L)], by rw [← hmk.out]; exact hmk2.out, by rw [← hmk.out]; go_num, hbox2.out, hst.out, by show Met B _ _; rw [← List.append_assoc]; exact HMet.out, hbl2.out⟩
      case measure => simp [intOf]; have := hmk2.out; omega
    · obtain rfl : a = hi + 1 := by omega
      have hle' : ¬ ((hi + 1 : Nat) : Int) ≤ (hi : Int) := by omega
      have hle2 : (hi : Int) < ((hi + 1 : Nat) : Int) := by omega
      have e := hgo.out.done (by omega)
      have hfin : Hid (Met B wr (l0 ++ grd 65536 lo (hi + 1 - lo))) := by show Met B wr (l0 ++ grd 65536 lo (hi + 1 - lo)); rw [← e]; exact hmet.out
      clear e
      go_wp2
      go_end0
      exact ⟨rfl, hfin.out, hbl.out⟩
set_option maxHeartbeats 1000000 in
theorem climbN (lo hi B : Nat) (k0 : Nat) (w : World) (h : lo ≤ hi) (hh : hi < 65536) (hM : Tal B w k0) (hl : k0 + 65536 ≤ 4294967296) :
    Calls Tryz.prog 81 #[.agg #[.int .u16 lo, .int .u16 hi], .func (.func 82) #[] #[.pointer (some ⟨B, 0, none⟩)]] w fun e w' => e = .returned (.tuple #[]) ∧ Tal B w' (k0 + (grd 65536 lo (hi + 1 - lo)).length) ∧ Below B w w' := by
  have hBlt : B < w.heap.size := lt_of_block hM
  have HM : Hid (Tal B w k0) := hM
  clear hM
  go_enter Tryz.func81, Tryz.ntmps81
  go_wp2
  go_loopw [4] (fun iv wr => ∃ (a : Nat) (pre : List (Nat × Nat)), a ≤ hi + 1 ∧ iv = .int .i64 a ∧ Hid (wr.heap[w.heap.size]? = some (.cells #[.int .u16 lo, .int .u16 hi] 48 (0, 0))) ∧ Hid (Gone lo hi a pre) ∧ Hid (Tal B wr (k0 + pre.length)) ∧ Hid (Below B w wr)) (fun iv _ => hi + 1 - (intOf iv).toNat)
  case atStart => exact ⟨lo, [], by omega, rfl, heap_alloc_new _ _, Gone.start lo hi hh, by show Tal B _ (k0 + 0); exact HM.out.alloc _, by show Below _ _ _; (repeat (first | assumption | exact Below.refl _ _ | refine Below.drew ?_ | refine bel_drewN ?_ _ | refine Below.setCell ?_ (by first | omega | (simp; done) | (simp; omega)) _ | refine Below.alloc ?_ (by first | omega | (simp; done) | (simp; omega)) _ | refine bel_of ?_ (by assumption)))⟩
  case round =>
    obtain ⟨a, pre, ha, rfl, hbox, hgo, hmet, hbl⟩ := hrel
    have y1 : wr.cell? ⟨w.heap.size, 1, none⟩ = some (.int .u16 hi) := by simp [World.cell?, hbox.out]
    have hz : w.heap.size < wr.heap.size := lt_of_block hbox.out
    by_cases hle : a ≤ hi
    · have hle' : (a : Int) ≤ (hi : Int) := by omega
      have ha6 : (a : Int) < 65536 := by omega
      have ha0 : (0 : Int) ≤ (a : Int) := by omega
      have hst : Hid (Gone lo hi (a + 2 ^ mf a (hi + 1 - a) 16) (pre ++ [(a, 16 - mf a (hi + 1 - a) 16)])) := hgo.out.step hle
      have hln : Hid ((k0 + pre.length) < 4294967296) := by
        show _ < _
        have := hst.out.len
        simp at this ⊢
        omega
      obtain ⟨m1, m2⟩ := mf_bd hle
      have hsh := fun W => shortT a hi hle hh W
      generalize mf a (hi + 1 - a) 16 = f at *
      obtain ⟨L, hL⟩ : ∃ L : Nat, L = 16 - f := ⟨_, rfl⟩
      rw [← hL] at hst hsh
      have hL16 : L ≤ 16 := by omega
      have hf : Hid (f = 16 - L) := by show _ = _; omega
      have hmk : Hid (mk (16 - L) + 1 = 2 ^ f) := by
        show _ = _
        rw [← hf.out]
        have := two_pos f
        unfold mk; omega
      have hmk2 : Hid (a + (mk (16 - L) + 1) ≤ hi + 1) := by show _ ≤ _; rw [hmk.out]; exact m2
      clear m1 m2 hL
      go_wp2_with (fail)
      refine (hsh _).mono ?_
      rintro e w1 ⟨rfl, hb1⟩
      have hz1 := hb1.size
      have hmet1 : Hid (Tal B w1 (k0 + pre.length)) := hmet.out.on hb1
      have hbox1 : Hid (w1.heap[w.heap.size]? = some (.cells #[.int .u16 lo, .int .u16 hi] 48 (0, 0))) := by show _ = _; rw [hb1.block _ hz]; exact hbox.out
      have hbl1 : Hid (Below B w w1) := hbl.out.trans (hb1.mono (by omega))
      clear hb1 hbox hmet hbl y1 hsh
      go_wp2_with (fail)
      refine (tallyT B a L (k0 + pre.length) _ (hmet1.out.alloc _) hln.out).mono ?_
      rintro e w2 ⟨rfl, hmet2, hk2⟩
      have hbk : w2.heap[w1.heap.size]? = some (.cells #[.int .u16 a, .int .i64 L] 173 (0, 0)) := (by rw [hk2.2 _ (by simp) (by omega)]; exact heap_alloc_new _ _)
      have t1 : w2.cell? ⟨w1.heap.size, 1, none⟩ = some (.int .i64 L) := by simp [World.cell?, hbk]
      have hbox2 : Hid (w2.heap[w.heap.size]? = some (.cells #[.int .u16 lo, .int .u16 hi] 48 (0, 0))) := (by show _ = _; rw [hk2.2 _ (by simp; omega) (by omega), Below.heap_alloc _ _ _ (by omega)]; exact hbox1.out)
      have hbl2 : Hid (Below B w w2) := (hbl1.out.alloc (by omega) _).trans hk2.1
      have HMet : Hid (Tal B w2 (k0 + pre.length + 1)) := hmet2
      have hmkl : (mk (16 - L) : Int) < 65536 := by have := mk_lt (show 16 - L ≤ 16 by omega); omega
      have hmk0 : (0 : Int) ≤ (mk (16 - L) : Int) := by omega
      clear hbk hk2 hmet2 hmet1 hbox1 hbl1
      go_wp2_with (go_at_call 95; refine (tailT L hL16 _).mono ?_; rintro e w' ⟨rfl, hw⟩; obtain rfl := hw.symm; clear hw)
      go_roundw
      case rel => exact ⟨a + 2 ^ f, pre ++ [(a, L)], by rw [← hmk.out]; exact hmk2.out, by rw [← hmk.out]; go_num, hbox2.out, hst.out, by show Tal B _ _; rw [List.length_append]; exact HMet.out, hbl2.out⟩
      case measure => simp [intOf]; have := hmk2.out; omega
    · obtain rfl : a = hi + 1 := by omega
      have hle' : ¬ ((hi + 1 : Nat) : Int) ≤ (hi : Int) := by omega
      have hle2 : (hi : Int) < ((hi + 1 : Nat) : Int) := by omega
      have e := hgo.out.done (by omega)
      have hfin : Hid (Tal B wr (k0 + (grd 65536 lo (hi + 1 - lo)).length)) := by show Tal B wr (k0 + (grd 65536 lo (hi + 1 - lo)).length); rw [← e]; exact hmet.out
      clear e
      go_wp2
      go_end0
      exact ⟨rfl, hfin.out, hbl.out⟩
end Go.Proofs.YtfpmljgmfapoiaaGreat.Xp
/-
  cover, Of and Count of package expand.
-/
namespace Go.Proofs.YtfpmljgmfapoiaaGreat.Xp
open Go.RowKit
set_option linter.unusedVariables false
set_option linter.unusedSimpArgs false

theorem grds_snoc (l : List (Nat × Nat)) (s : Nat × Nat) : grds (l ++ [s]) = grds l ++ grd 65536 s.1 (s.2 + 1 - s.1) := by
  unfold grds
  rw [List.flatMap_append]
  simp
set_option maxHeartbeats 1000000 in
theorem coverT (l : List (Nat × Nat)) (v : Value) (w : World) (hs : Src w v l) (hc : ∀ s ∈ l, s.1 ≤ s.2 ∧ s.2 < 65536) (hl : l.length ≤ 65536) :
    Calls Tryz.prog 98 #[v] w fun e w' => ∃ v' : Value, e = .returned v' ∧ RowT w' w.heap.size v' (grds l) ∧ Below w.heap.size w w' := by
  obtain ⟨ad, cap, rfl, hat⟩ := hs.at
  clear hs
  have HC : Hid (∀ s ∈ l, s.1 ≤ s.2 ∧ s.2 < 65536) := hc
  clear hc
  go_enter Tryz.func98, Tryz.ntmps98
  go_wp2_with (fail)
  go_loopw [10] (fun iv wr => ∃ k : Nat, k ≤ l.length ∧ iv = .int .i64 k ∧ Hid (Met w.heap.size wr (grds (l.take k))) ∧ Hid (Below w.heap.size w wr)) (fun iv _ => l.length - (intOf iv).toNat)
  case atStart => exact ⟨0, Nat.zero_le _, rfl, ⟨.slice none 0 0, heap_alloc_new _ _, RowT.nil _ _⟩, by show Below _ _ _; (repeat (first | assumption | exact Below.refl _ _ | refine Below.drew ?_ | refine bel_drewN ?_ _ | refine Below.setCell ?_ (by first | omega | (simp; done) | (simp; omega)) _ | refine Below.alloc ?_ (by first | omega | (simp; done) | (simp; omega)) _ | refine bel_of ?_ (by assumption)))⟩
  case round =>
    obtain ⟨k, hk, rfl, hmet, hbl⟩ := hrel
    by_cases hlt : k < l.length
    · obtain ⟨g, off, rfl, hcell⟩ := hat (by omega)
      obtain ⟨s, hs⟩ : ∃ s, s = l[k] := ⟨_, rfl⟩
      obtain ⟨x0, x1⟩ := hcell k hlt
      rw [← hs] at x0 x1
      have y0 := (hbl.out.cell (World.block_lt_of_cell? _ _ x0)).trans x0
      have y1 := (hbl.out.cell (World.block_lt_of_cell? _ _ x1)).trans x1
      have hz := hbl.out.size
      have hlt' : (k : Int) < (l.length : Int) := by omega
      have hk0 : (0 : Int) ≤ (k : Int) := by omega
      have HS : Hid (s = l[k]) := hs
      have hok : s.1 ≤ s.2 ∧ s.2 < 65536 := HC.out s (by rw [hs]; exact List.getElem_mem _)
      have hln : (grds (l.take k)).length + 65536 ≤ 4294967296 := by
        have h1 := grds_len (l.take k)
        rw [List.length_take, Nat.min_eq_left hk] at h1
        omega
      have hcl := fun W hW => climbK s.1 s.2 w.heap.size (grds (l.take k)) W hok.1 hok.2 hW hln
      have HL : Hid (grds (l.take (k + 1)) = grds (l.take k) ++ grd 65536 s.1 (s.2 + 1 - s.1)) := by
        show _ = _
        rw [List.take_succ_eq_append_getElem hlt, grds_snoc, ← hs]
      clear hat hcell x0 x1 hs hln hok
      go_wp2_with (fail)
      refine (hcl _ (hmet.out.alloc _)).mono ?_
      rintro e w2 ⟨rfl, hmet2, hb2⟩
      have HM2 : Hid (Met w.heap.size w2 (grds (l.take (k + 1)))) := by show Met _ _ _; rw [HL.out]; exact hmet2
      have HB2 : Hid (Below w.heap.size w w2) := (hbl.out.alloc hz _).trans hb2
      clear hcl hmet2 hb2 hmet hbl HL y0 y1 HS
      go_wp2
      go_roundw
      case rel => exact ⟨k + 1, by omega, by go_num, HM2.out, HB2.out⟩
      case measure => simp [intOf]; omega
    · obtain rfl : k = l.length := by omega
      obtain ⟨v, h1, h2⟩ := hmet.out
      rw [List.take_length] at h2
      obtain ⟨ad', cap', rfl, _, _⟩ := h2.form
      have c1 := cell_of_one h1
      have H2 : Hid (RowT wr (w.heap.size + 1) (.slice ad' (grds l).length cap') (grds l)) := h2
      clear h1 h2 hmet hat
      go_wp2
      go_ret
      exact ⟨_, rfl, H2.out.base (by omega), hbl.out⟩
theorem ofN : OfN := by
  intro lo hi w hlo h
  have hk : chkS lo hi = 30 := if_pos h
  have hc := fun W => checkS lo hi W
  rw [hk] at hc
  clear hk
  go_enter Tryz.func87, Tryz.ntmps87
  go_wp2_with (go_at_call 80; refine (hc _).mono ?_; rintro e w1 ⟨rfl, hb1⟩)
  go_ret2
  exact ⟨_, rfl, RowT.nil _ _, by (repeat (first | assumption | exact Below.refl _ _ | refine Below.drew ?_ | refine bel_drewN ?_ _ | refine Below.setCell ?_ (by first | omega | (simp; done) | (simp; omega)) _ | refine Below.alloc ?_ (by first | omega | (simp; done) | (simp; omega)) _ | refine bel_of ?_ (by assumption)))⟩
set_option maxHeartbeats 1000000 in
theorem ofC : OfC := by
  intro lo hi w h hh
  have hk : chkS lo hi = 0 := if_neg (by omega)
  have hc := fun W => checkS lo hi W
  rw [hk] at hc
  clear hk
  go_enter Tryz.func87, Tryz.ntmps87
  go_wp2_with (fail)
  refine (hc _).mono ?_
  rintro e w1 ⟨rfl, hb1⟩
  have z0 : w1.cell? ⟨w.heap.size, 0, none⟩ = some (.int .u16 lo) := cell_on hb1 (by simp [go_sem])
  have z1 : w1.cell? ⟨w.heap.size, 1, none⟩ = some (.int .u16 hi) := cell_on hb1 (by simp [go_sem])
  have hz1 := hb1.size
  simp at hz1
  have HB : Hid (Below w.heap.size w w1) := by show Below _ _ _; (repeat (first | assumption | exact Below.refl _ _ | refine Below.drew ?_ | refine bel_drewN ?_ _ | refine Below.setCell ?_ (by first | omega | (simp; done) | (simp; omega)) _ | refine Below.alloc ?_ (by first | omega | (simp; done) | (simp; omega)) _ | refine bel_of ?_ (by assumption)))
  clear hb1
  go_wp2_with (fail)
  refine (coverT [(lo, hi)] _ _ (Row.one w1 0 lo hi (by omega)).src (by intro s hs; simp at hs; subst hs; exact ⟨h, hh⟩) (by simp)).mono ?_
  rintro e w2 ⟨v2, rfl, hr2, hb2⟩
  have HR : Hid (RowT w2 w.heap.size v2 (tl (hasB (lo, hi)) 16 0)) := by
    show RowT _ _ _ _
    rw [tl_span h hh, show grd 65536 lo (hi + 1 - lo) = grds [(lo, hi)] by simp [grds]]
    exact hr2.base (by simp; omega)
  have HB2 : Hid (Below w.heap.size w w2) := (HB.out.alloc (by omega) _).trans (hb2.mono (by simp; omega))
  obtain ⟨ad, cap, rfl, _, _⟩ := hr2.form
  clear hr2 hb2
  go_wp2
  go_ret2
  exact ⟨_, rfl, HR.out, HB2.out⟩
set_option maxHeartbeats 1000000 in
theorem cntC : CntC := by
  intro lo hi w h hh
  have hk : chkS lo hi = 0 := if_neg (by omega)
  have hc := fun W => checkS lo hi W
  rw [hk] at hc
  clear hk
  rw [tl_span h hh]
  go_enter Tryz.func63, Tryz.ntmps63
  go_wp2_with (fail)
  refine (hc _).mono ?_
  rintro e w1 ⟨rfl, hb1⟩
  have z0 : w1.cell? ⟨w.heap.size, 0, none⟩ = some (.int .u16 lo) := cell_on hb1 (by simp [go_sem])
  have z1 : w1.cell? ⟨w.heap.size, 1, none⟩ = some (.int .u16 hi) := cell_on hb1 (by simp [go_sem])
  have hz1 := hb1.size
  simp at hz1
  have z2 : (w1.alloc (.cells #[.int .i64 0] 3)).cell? ⟨w.heap.size, 0, none⟩ = some (.int .u16 lo) := cell_alloc z0
  have z3 : (w1.alloc (.cells #[.int .i64 0] 3)).cell? ⟨w.heap.size, 1, none⟩ = some (.int .u16 hi) := cell_alloc z1
  have HB : Hid (Below w.heap.size w w1) := by show Below _ _ _; (repeat (first | assumption | exact Below.refl _ _ | refine Below.drew ?_ | refine bel_drewN ?_ _ | refine Below.setCell ?_ (by first | omega | (simp; done) | (simp; omega)) _ | refine Below.alloc ?_ (by first | omega | (simp; done) | (simp; omega)) _ | refine bel_of ?_ (by assumption)))
  clear hb1
  go_wp2_with (fail)
  refine (climbN lo hi w1.heap.size 0 _ h hh (heap_alloc_new _ _) (by omega)).mono ?_
  rintro e w2 ⟨rfl, ht2, hb2⟩
  rw [Nat.zero_add] at ht2
  have c2 := cell_of_one ht2
  have HB2 : Hid (Below w.heap.size w w2) := (HB.out.alloc (by omega) _).trans (hb2.mono (by omega))
  clear ht2 hb2
  go_wp2
  go_ret2
  exact ⟨rfl, HB2.out⟩
end Go.Proofs.YtfpmljgmfapoiaaGreat.Xp
/-
  Two stems: one holds all of the other one, or they share no port.
-/
namespace Go.Proofs.YtfpmljgmfapoiaaGreat.Xp
open Go.RowKit
set_option linter.unusedVariables false

end Go.Proofs.YtfpmljgmfapoiaaGreat.Xp
/-
  How many stems a span has.
-/
namespace Go.Proofs.YtfpmljgmfapoiaaGreat.Xp
open Go.RowKit
set_option linter.unusedVariables false

theorem inS_is (lo hi : Nat) : inS lo hi = hasB (lo, hi) := by
  funext i
  rw [Bool.eq_iff_iff, hasB_iff]
  simp [inS]
theorem ofS_len {lo hi : Nat} : (tl (hasB (lo, hi)) 16 0).length ≤ 30 := by
  have := tl_few lo hi 16 0 (by decide)
  rw [inS_is] at this
  exact this
theorem ofS_count {lo hi : Nat} (q : Nat) (hq : q < 65536) : (tl (hasB (lo, hi)) 16 0).countP (hos q) = if hasB (lo, hi) q = true then 1 else 0 := by
  rw [tl_count (hasB (lo, hi)) q 16 0 (Nat.le_refl _) ⟨0, by simp⟩]
  have : decide (0 ≤ q ∧ q < 0 + 2 ^ 16) = true := decide_eq_true ⟨Nat.zero_le _, by omega⟩
  rw [this, Bool.true_and]
theorem ofS_pos {lo hi : Nat} (h1 : lo ≤ hi) (h2 : hi < 65536) : 1 ≤ (tl (hasB (lo, hi)) 16 0).length := by
  have h := ofS_count (lo := lo) (hi := hi) lo (by omega)
  rw [if_pos ((hasB_iff _ _).2 ⟨Nat.le_refl _, h1⟩)] at h
  have := List.countP_le_length (p := hos lo) (l := tl (hasB (lo, hi)) 16 0)
  omega
end Go.Proofs.YtfpmljgmfapoiaaGreat.Xp
