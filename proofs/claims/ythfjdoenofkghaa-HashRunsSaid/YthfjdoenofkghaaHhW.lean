/-
  bounds; headers one behind the other; a table that one script walks on.
-/
import Derived.Test.YthfjdoenofkghaaHhZ
namespace Go.Proofs.Ythfjdoenofkghaa
open Go.RowKit
set_option linter.unusedVariables false
set_option linter.unusedSimpArgs false

/-- A table made since w, its row told. -/
structure Og (w w1 : World) (t : Nat) (v : Value) (M c P : Nat) (m : Hd → Option Int) : Prop where
  a : Tb w1 t v M c P m
  ge1 : w.heap.size ≤ t
  ge3 : ∀ k, v.ownBlock = some k → w.heap.size ≤ k
  bel : Below w.heap.size w w1
section
variable {w w1 w2 : World} {t : Nat} {v v2 : Value} {M c P c' P' : Nat} {m m' : Hd → Option Int}
theorem Og.on (h : Og w w1 t v M c P m) (hb : Below w1.heap.size w1 w2) : Og w w2 t v M c P m := ⟨h.a.on hb, h.ge1, h.ge3, h.bel.trans (hb.mono h.bel.size)⟩
theorem Og.moved (h : Og w w1 t v M c P m) (hT : Tb w2 t v2 M c' P' m') (hm : Moved w1 w2 t v v2) : Og w w2 t v2 M c' P' m' := ⟨hT, h.ge1, hm.ge h.bel.size h.ge3, h.bel.trans (hm.below h.bel.size h.ge1 h.ge3)⟩
theorem Og.new (h : Og w w1 t v M c P m) {B : Nat} {o : Obj} (hb : Below w1.heap.size w1 w2) (hB : w1.heap.size ≤ B) (ho : w2.heap[B]? = some o) : Kb w2 t v B o := ⟨ho, by have := h.a.lt; omega, fun e => by have := h.a.own _ e; omega⟩
theorem Og.cells (h : Og w w1 t v M c P m) {B : Nat} (ho : Only B w1 w2) (h1 : B ≠ t) (h2 : v.ownBlock ≠ some B) (h3 : w.heap.size ≤ B) : Og w w2 t v M c P m := by
  obtain ⟨sp, l, a, b⟩ := h.a
  exact ⟨⟨sp, l, a.only ho h1 h2, b⟩, h.ge1, h.ge3, h.bel.trans (ho.below h3)⟩
theorem og_put (k : Hd) (y : Int) (h : Og w w1 t v M c P m) (o : OkH k) :
    Calls Try.prog 10 #[.pointer (some ⟨t, 0, none⟩), .agg #[.int .u32 (k.s : Int), .int .u32 (k.d : Int), .int .u16 (k.p : Int), .int .u16 (k.q : Int), .int .u8 (k.r : Int)], .int .i64 y] w1 fun e w' => e = .returned (.int .i64 (putE m M c k)) ∧ ∃ v2, Og w w' t v2 M (putN m M c k) (max P (putN m M c k)) (putM m M c k y) ∧ Moved w1 w' t v v2 :=
  (putC t v M c P m k y w1 h.a o).mono fun e w2 ⟨he, v2, hT, hm⟩ => ⟨he, v2, h.moved hT hm, hm⟩
theorem og_del (k : Hd) (h : Og w w1 t v M c P m) (o : OkH k) :
    Calls Try.prog 14 #[.pointer (some ⟨t, 0, none⟩), .agg #[.int .u32 (k.s : Int), .int .u32 (k.d : Int), .int .u16 (k.p : Int), .int .u16 (k.q : Int), .int .u8 (k.r : Int)]] w1 fun e w' => e = .returned (.bool (m k).isSome) ∧ Og w w' t v M (delN m c k) P (upd m k none) ∧ Moved w1 w' t v v :=
  (delC t v M c P m k w1 h.a o).mono fun e w2 ⟨he, hT, _, hm⟩ => ⟨he, h.moved hT hm, hm⟩
theorem og_get (k : Hd) (h : Og w w1 t v M c P m) (o : OkH k) :
    Calls Try.prog 12 #[.pointer (some ⟨t, 0, none⟩), .agg #[.int .u32 (k.s : Int), .int .u32 (k.d : Int), .int .u16 (k.p : Int), .int .u16 (k.q : Int), .int .u8 (k.r : Int)]] w1 fun e w' => e = .returned (.tuple #[.int .i64 ((m k).getD 0), .bool (m k).isSome]) ∧ Below w1.heap.size w1 w' := getC t v M c P m k w1 h.a o
theorem og_of (h : Ow w w1 t M c P m) : ∃ v, Og w w1 t v M c P m := by
  obtain ⟨v, a1, a2, a3, a4⟩ := h
  exact ⟨v, a1, a2, a3, a4⟩
end
set_option maxHeartbeats 2000000 in
theorem boundsC (t : Nat) (v : Value) (M c P pk : Nat) (m : Hd → Option Int) (k : Hd) (w : World) (h : Tb w t v M c P m) (o : OkH k) (hpk : P ≤ pk) (hpk2 : pk ≤ 65536) :
    Calls Try.prog 17 #[.pointer (some ⟨t, 0, none⟩), .int .i64 (c : Int), .int .i64 (pk : Int), .agg #[.int .u32 (k.s : Int), .int .u32 (k.d : Int), .int .u16 (k.p : Int), .int .u16 (k.q : Int), .int .u8 (k.r : Int)]] w fun e w' => e = .returned (.bool true) ∧ Below w.heap.size w w' := by
  have b1 : Below w.heap.size w (w.alloc (.cells #[.int .u32 (k.s : Int), .int .u32 (k.d : Int), .int .u16 (k.p : Int), .int .u16 (k.q : Int), .int .u8 (k.r : Int)] 36)) := (Below.refl _ _).alloc (Nat.le_refl _) _
  have hsl := slotsC t v M c P m _ (h.on b1)
  have HT1 : Hid (Tb (w.alloc (.cells #[.int .u32 (k.s : Int), .int .u32 (k.d : Int), .int .u16 (k.p : Int), .int .u16 (k.q : Int), .int .u8 (k.r : Int)] 36)) t v M c P m) := h.on b1
  have HB1 : Hid (Below w.heap.size w (w.alloc (.cells #[.int .u32 (k.s : Int), .int .u32 (k.d : Int), .int .u16 (k.p : Int), .int .u16 (k.q : Int), .int .u8 (k.r : Int)] 36))) := b1
  have HK1 : Hid ((w.alloc (.cells #[.int .u32 (k.s : Int), .int .u32 (k.d : Int), .int .u16 (k.p : Int), .int .u16 (k.q : Int), .int .u8 (k.r : Int)] 36)).heap[w.heap.size]? = some (.cells #[.int .u32 (k.s : Int), .int .u32 (k.d : Int), .int .u16 (k.p : Int), .int .u16 (k.q : Int), .int .u8 (k.r : Int)] 36)) := blk_new w _
  have HO : Hid (OkH k) := o
  have hcP : c ≤ P ∧ P ≤ 65536 := by obtain ⟨_, _, _, _, _, _, _, a, b, d⟩ := h; omega
  have hp0 : (pk : Int) ≤ 65536 := by omega
  have hc0 : (c : Int) ≤ 65536 := by omega
  clear h b1 o
  go_enter Try.func17, Try.ntmps17
  go_upto_region 1 with (fail)
  generalize w.alloc (.cells #[.int .u32 (k.s : Int), .int .u32 (k.d : Int), .int .u16 (k.p : Int), .int .u16 (k.q : Int), .int .u8 (k.r : Int)] 36) = W1 at *
  go_wp2_with (fail)
  refine hsl.mono ?_
  rintro e w2 ⟨n, rfl, hn1, hn2, hn3, hb2⟩
  have HT2 : Hid (Tb w2 t v M c P m) := HT1.out.on hb2
  have HB2 : Hid (Below w.heap.size w w2) := HB1.out.trans (hb2.mono HB1.out.size)
  obtain ⟨sp, l, hln, hT, hI⟩ := hn3 k w2 HO.out HT2.out
  have hpr := probesC t v M c sp l k w2 hT hI (by omega) HO.out
  rw [hln] at hpr
  obtain ⟨k0, k1, k2, k3, k4⟩ := blk5 (blk_on HK1.out hb2)
  clear hsl hn3 hT hI hln hb2 HT1 HB1
  go_wp2_with (fail)
  refine hpr.mono ?_
  rintro e w3 ⟨p, rfl, hp1, hp2, hb3⟩
  have HT3 : Hid (Tb w3 t v M c P m) := HT2.out.on hb3
  have HB3 : Hid (Below w.heap.size w w3) := HB2.out.trans (hb3.mono HB2.out.size)
  clear hpr hb3 k0 k1 k2 k3 k4 HT2 HB2
  go_wp2_with (fail)
  refine (lenC t v M c P m w3 HT3.out).mono ?_
  rintro e w4 ⟨rfl, hb4⟩
  have HB4 : Hid (Below w.heap.size w w4) := HB3.out.trans (hb4.mono HB3.out.size)
  have a1 : (c : Int) + 2 ≤ (n : Int) := by omega
  have a2 : (n : Int) ≤ 8 + 4 * (pk : Int) := by omega
  have a3 : (1 : Int) ≤ (p : Int) := by omega
  have a4 : (p : Int) < (n : Int) := by omega
  clear hb4 HT3 HB3
  go_wp2_with (fail)
  go_ret
  exact ⟨rfl, HB4.out⟩
theorem odd_div : ∀ (m s a : Nat), s % 2 = 1 → 2 ^ m ∣ a * s → 2 ^ m ∣ a
  | 0, s, a, _, _ => by simp
  | m + 1, s, a, hs, h => by
    have h2 : (a * s) % 2 = 0 := by
      obtain ⟨c, hc⟩ := h
      rw [hc, Nat.pow_succ, Nat.mul_assoc, Nat.mul_comm, Nat.mul_assoc, Nat.mul_mod_right]
    rw [Nat.mul_mod, hs, Nat.mul_one, Nat.mod_mod] at h2
    obtain ⟨b, rfl⟩ : ∃ b, a = 2 * b := ⟨a / 2, by omega⟩
    obtain ⟨c, hc⟩ := h
    have h3 : b * s = 2 ^ m * c := by
      rw [Nat.pow_succ] at hc
      have : 2 * (b * s) = 2 * (2 ^ m * c) := by rw [← Nat.mul_assoc, hc, Nat.mul_comm (2 ^ m) 2, Nat.mul_assoc]
      omega
    obtain ⟨d, rfl⟩ := odd_div m s b hs ⟨c, h3⟩
    exact ⟨d, by rw [Nat.pow_succ, ← Nat.mul_assoc, Nat.mul_comm 2 (2 ^ m)]⟩
/-- The header i steps on. -/
def kyN (f : Hd) (st i : Nat) : Hd := ⟨f.s, (f.d + i * st) % 4294967296, f.p, f.q, f.r⟩
theorem ky_ok {f : Hd} (o : OkH f) (st i : Nat) : OkH (kyN f st i) := by
  have := Nat.mod_lt (f.d + i * st) (show 0 < 4294967296 by decide)
  unfold OkH kyN at *; exact ⟨o.1, this, o.2.2.1, o.2.2.2.1, o.2.2.2.2⟩
theorem ky_zero {f : Hd} (o : OkH f) (st : Nat) : kyN f st 0 = f := by
  unfold kyN; rw [Nat.zero_mul, Nat.add_zero, Nat.mod_eq_of_lt o.2.1]
theorem ky_succ (f : Hd) (st i : Nat) : ((kyN f st i).d + st) % 4294967296 = (kyN f st (i + 1)).d := by
  unfold kyN; simp only; rw [Nat.mod_add_mod, Nat.add_mul, Nat.one_mul, Nat.add_assoc]
theorem ky_le {f : Hd} {st i j : Nat} (hs : st % 2 = 1) (hij : i < j) (hj : j < 4294967296) (h : kyN f st i = kyN f st j) : False := by
  unfold kyN at h
  injection h with _ h
  have h2 : (2 : Nat) ^ 32 ∣ (j - i) * st := by
    have e : (j - i) * st = (f.d + j * st) - (f.d + i * st) := by rw [Nat.sub_mul]; omega
    rw [e]
    exact Nat.dvd_of_mod_eq_zero (Nat.sub_mod_eq_zero_of_mod_eq h.symm)
  have h3 := Nat.le_of_dvd (by omega) (odd_div 32 st _ hs h2)
  omega
theorem ky_inj {f : Hd} {st i j : Nat} (hs : st % 2 = 1) (hi : i < 4294967296) (hj : j < 4294967296) (h : kyN f st i = kyN f st j) : i = j := by
  rcases Nat.lt_trichotomy i j with g | g | g
  · exact (ky_le hs g hj h).elim
  · exact g
  · exact (ky_le hs g hi h.symm).elim
/-- What is held when i headers are in. -/
def gmN (f : Hd) (st : Nat) : Nat → Hd → Option Int
  | 0 => m0
  | i + 1 => upd (gmN f st i) (kyN f st i) (some (i : Int))
theorem gm_far {f : Hd} {st : Nat} (hs : st % 2 = 1) : ∀ (i j : Nat), i ≤ j → j < 4294967296 → gmN f st i (kyN f st j) = none
  | 0, j, _, _ => rfl
  | i + 1, j, h, hj => by
    unfold gmN
    rw [upd_far _ _ (fun e => by have := ky_inj hs hj (by omega) e; omega)]
    exact gm_far hs i j (by omega) hj
theorem gm_in {f : Hd} {st : Nat} (hs : st % 2 = 1) : ∀ (i j : Nat), j < i → i < 4294967296 → gmN f st i (kyN f st j) = some (j : Int)
  | i + 1, j, h, hj => by
    unfold gmN
    by_cases e : j = i
    · subst e; exact upd_same _ _ _
    · rw [upd_far _ _ (fun g => e (ky_inj hs (by omega) (by omega) g))]
      exact gm_in hs i j (by omega) (by omega)
theorem gm_only {f : Hd} {st : Nat} : ∀ (i : Nat) (k : Hd) (y : Int), gmN f st i k = some y → ∃ j, j < i ∧ k = kyN f st j ∧ y = (j : Int)
  | 0, k, y, h => by cases h
  | i + 1, k, y, h => by
    unfold gmN upd at h
    split at h
    · rename_i e; exact ⟨i, by omega, e, (Option.some.inj h).symm⟩
    · obtain ⟨j, h1, h2, h3⟩ := gm_only i k y h
      exact ⟨j, by omega, h2, h3⟩
/-- What is held when i of n were looked at, and all of these but one are gone. -/
def dmN (f : Hd) (st n s : Nat) : Nat → Hd → Option Int
  | 0 => gmN f st n
  | i + 1 => if i = s then dmN f st n s i else upd (dmN f st n s i) (kyN f st i) none
theorem dm_in {f : Hd} {st n s : Nat} (hs : st % 2 = 1) (hn : n < 4294967296) : ∀ (i j : Nat), i ≤ n → j < n → (i ≤ j ∨ j = s) → dmN f st n s i (kyN f st j) = some (j : Int)
  | 0, j, _, hj, _ => gm_in hs n j hj hn
  | i + 1, j, hi, hj, h => by
    unfold dmN
    split
    · exact dm_in hs hn i j (by omega) hj (by omega)
    · rename_i e
      rw [upd_far _ _ (fun g => by have := ky_inj hs (by omega) (by omega) g; omega)]
      exact dm_in hs hn i j (by omega) hj (by omega)
theorem dm_only {f : Hd} {st n s : Nat} : ∀ (i : Nat) (k : Hd) (y : Int), dmN f st n s i k = some y → ∃ j, j < n ∧ (i ≤ j ∨ j = s) ∧ k = kyN f st j ∧ y = (j : Int)
  | 0, k, y, h => by
    obtain ⟨j, h1, h2, h3⟩ := gm_only n k y h
    exact ⟨j, h1, .inl (Nat.zero_le _), h2, h3⟩
  | i + 1, k, y, h => by
    unfold dmN at h
    split at h
    · rename_i e
      obtain ⟨j, h1, h2, h3, h4⟩ := dm_only i k y h
      exact ⟨j, h1, by omega, h3, h4⟩
    · rename_i e
      unfold upd at h
      split at h
      · cases h
      · rename_i g
        obtain ⟨j, h1, h2, h3, h4⟩ := dm_only i k y h
        exact ⟨j, h1, by rcases h2 with h2 | h2
                         · by_cases q : j = i
                           · subst q; exact absurd h3 g
                           · omega
                         · exact .inr h2, h3, h4⟩
/-- How many are held then. -/
def cnN (n s i : Nat) : Nat := if s < i then n - i + 1 else n - i
theorem dm_tells {f : Hd} {st n s : Nat} (o : OkH f) (hs : st % 2 = 1) (hn : n < 4294967296) (hsn : s < n) : Tells (dmN f st n s n) [⟨kyN f st s, (s : Int)⟩] where
  srt := List.pairwise_singleton _ _
  ok := fun x hx => by rw [List.mem_singleton] at hx; rw [hx]; exact ky_ok o st s
  mem := fun x => by
    rw [List.mem_singleton]
    constructor
    · intro e; rw [e]; exact dm_in hs hn n s (Nat.le_refl _) hsn (.inr rfl)
    · intro h
      obtain ⟨j, h1, h2, h3, h4⟩ := dm_only n x.k x.v h
      obtain rfl : j = s := by omega
      obtain ⟨xk, xv⟩ := x
      simp only at h3 h4
      rw [h3, h4]
end Go.Proofs.Ythfjdoenofkghaa
