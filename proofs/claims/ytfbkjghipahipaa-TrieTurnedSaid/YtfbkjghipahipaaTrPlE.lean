/-
  What is found in such a tree: one key, the keys above one, how many nodes there are by the list alone. No program is named here.
-/
import Derived.Test.YtfbkjghipahipaaTrPlD
namespace Go.Proofs.Ytfbkjghipahipaa
set_option linter.unusedVariables false
set_option linter.unusedSimpArgs false

/-- The number of the node of a key, or 0. -/
def fnd (A : List Nd) : Nat → Nat → Nat → Nat → Nat
  | 0, _, r, _ => r
  | d + 1, h, r, k => if r = 0 then 0 else fnd A d (h - 1) (kidA (gt A r) (sid k h)) k
theorem fnd_z (A : List Nd) (d h k : Nat) : fnd A d h 0 k = 0 := by cases d <;> simp [fnd]
theorem fnd_le {A : List Nd} : ∀ {d h r k : Nat}, d ≤ h → okT A h r → fnd A d h r k ≤ A.length
  | 0, h, r, k, _, o => by simp only [fnd]; exact okT_le o
  | d + 1, h, r, k, hd, o => by
    obtain ⟨h, rfl⟩ : ∃ h', h = h' + 1 := ⟨h - 1, by omega⟩
    simp only [fnd]
    split
    · omega
    · simp only [okT] at o
      rcases o with o | ⟨_, o2, o3, _⟩
      · omega
      · rw [Nat.add_sub_cancel]
        unfold kidA
        split
        · exact fnd_le (by omega) o2
        · exact fnd_le (by omega) o3
/-- Of a node that is not held the value is 0. -/
theorem fnd_val {A : List Nd} : ∀ {d h r k : Nat}, d ≤ h → okT A h r → fnd A d h r k ≠ 0 → (gt A (fnd A d h r k)).h = false → (gt A (fnd A d h r k)).v = 0
  | 0, h, r, k, _, o, h0, hh => by
    simp only [fnd] at *
    have := op_of_ok o h0
    cases h with
    | zero => exact this.2.2.2.2 hh
    | succ h => exact this.2.2.2.2 hh
  | d + 1, h, r, k, hd, o, h0, hh => by
    obtain ⟨h, rfl⟩ : ∃ h', h = h' + 1 := ⟨h - 1, by omega⟩
    simp only [fnd] at *
    split at h0
    · exact absurd rfl h0
    · rename_i r0
      rw [if_neg r0] at hh ⊢
      simp only [okT] at o
      rcases o with o | ⟨_, o2, o3, _⟩
      · omega
      · rw [Nat.add_sub_cancel] at *
        unfold kidA at *
        split at h0
        · rename_i q
          rw [if_pos q] at hh ⊢
          exact fnd_val (by omega) o2 h0 hh
        · rename_i q
          rw [if_neg q] at hh ⊢
          exact fnd_val (by omega) o3 h0 hh
theorem fnd_mem {W : Nat} {A : List Nd} : ∀ {d h r k key : Nat} {v : Int}, d ≤ h → h ≤ W → key % 2 ^ h = 0 → key ≤ k → k < key + 2 ^ h → k % 2 ^ (h - d) = 0 →
    ((⟨k, W - h + d, v⟩ : En) ∈ tel W A h r key ↔ fnd A d h r k ≠ 0 ∧ (gt A (fnd A d h r k)).h = true ∧ (gt A (fnd A d h r k)).v = v)
  | 0, h, r, k, key, v, hd, hW, hk, k1, k2, hx => by
    have e : k = key := word_eq k1 k2 hk (by simpa using hx)
    subst e
    simp only [fnd]
    by_cases r0 : r = 0
    · subst r0; rw [tel_z]; simp
    · cases h with
      | zero =>
        simp only [tel]
        rw [if_neg r0, own_mem]
        simp [r0]
        intro _; exact eq_comm
      | succ h =>
        simp only [tel]
        rw [if_neg r0]
        simp only [List.mem_append, own_mem]
        obtain ⟨m1, m2⟩ := mod_half hk
        constructor
        · rintro (⟨q1, q2⟩ | q | q)
          · simp at q2; exact ⟨r0, q1, q2.symm⟩
          · have := rng (by omega) m1 q; simp only at this; omega
          · have := rng (by omega) m2 q; simp only at this; omega
        · rintro ⟨_, q1, q2⟩
          exact .inl ⟨q1, by rw [q2]; simp⟩
  | d + 1, h, r, k, key, v, hd, hW, hk, k1, k2, hx => by
    obtain ⟨h, rfl⟩ : ∃ h', h = h' + 1 := ⟨h - 1, by omega⟩
    simp only [fnd]
    by_cases r0 : r = 0
    · subst r0; rw [tel_z]; simp
    · rw [if_neg r0, Nat.add_sub_cancel]
      simp only [tel]
      rw [if_neg r0]
      simp only [List.mem_append, own_mem]
      obtain ⟨m1, m2⟩ := mod_half hk
      rcases half k1 k2 hk with ⟨sd, kk⟩ | ⟨sd, kk⟩
      · rw [sd]
        simp only [kidA, if_true]
        rw [← fnd_mem (W := W) (key := key) (by omega) (by omega) m1 k1 kk (by rw [show h - d = h + 1 - (d + 1) by omega]; exact hx), show W - h + d = W - (h + 1) + (d + 1) by omega]
        constructor
        · rintro (⟨q1, q2⟩ | q | q)
          · have := congrArg En.n q2; simp only at this; omega
          · exact q
          · have := rng (by omega) m2 q; simp only at this; omega
        · exact fun q => .inr (.inl q)
      · rw [sd]
        simp only [kidA, if_neg (show ¬ (1 : Nat) = 0 by decide)]
        rw [← fnd_mem (W := W) (key := key + 2 ^ h) (by omega) (by omega) m2 kk (by rw [Nat.pow_succ] at k2; omega) (by rw [show h - d = h + 1 - (d + 1) by omega]; exact hx), show W - h + d = W - (h + 1) + (d + 1) by omega]
        constructor
        · rintro (⟨q1, q2⟩ | q | q)
          · have := congrArg En.n q2; simp only at this; omega
          · have := rng (by omega) m1 q; simp only at this; omega
          · exact q
        · exact fun q => .inr (.inr q)
/-- The nodes on the way, one by one. -/
theorem fm_congr {α β : Type} {f g : α → Option β} : ∀ {l : List α}, (∀ x ∈ l, f x = g x) → l.filterMap f = l.filterMap g
  | [], _ => rfl
  | x :: l, h => by
    rw [List.filterMap_cons, List.filterMap_cons, h x (by simp), fm_congr (l := l) (fun y hy => h y (by simp [hy]))]
theorem fm_map {α β γ : Type} (g : α → β) (f : β → Option γ) : ∀ (l : List α), (l.map g).filterMap f = l.filterMap (fun x => f (g x))
  | [] => rfl
  | x :: l => by rw [List.map_cons, List.filterMap_cons, List.filterMap_cons, fm_map g f l]
theorem fm_none {α β : Type} (l : List α) : l.filterMap (fun _ => (none : Option β)) = [] := by
  induction l with
  | nil => rfl
  | cons x l ih => rw [List.filterMap_cons, ih]
theorem pth_fnd (A : List Nd) : ∀ (d h r k n : Nat), pth A d h r k n = (List.range (d + 1)).filterMap (fun j => if fnd A j h r k = 0 then none else some (n + j, fnd A j h r k))
  | 0, h, r, k, n => by
    by_cases r0 : r = 0
    · subst r0; rw [pth_z, fm_congr (g := fun _ => none) (fun j _ => by rw [fnd_z]; rfl), fm_none]
    · simp [pth, fnd, r0, List.filterMap_cons]
  | d + 1, h, r, k, n => by
    by_cases r0 : r = 0
    · subst r0; rw [pth_z, fm_congr (g := fun _ => none) (fun j _ => by rw [fnd_z]; rfl), fm_none]
    · rw [List.range_succ_eq_map, List.filterMap_cons, fm_map]
      have e0 : (if fnd A 0 h r k = 0 then none else some (n + 0, fnd A 0 h r k)) = some (n, r) := by simp [fnd, r0]
      rw [e0]
      simp only [pth]
      rw [if_neg r0, pth_fnd A d (h - 1) _ k (n + 1)]
      congr 1
      apply fm_congr
      intro j _
      have e1 : fnd A j.succ h r k = fnd A j (h - 1) (kidA (gt A r) (sid k h)) k := by simp only [Nat.succ_eq_add_one, fnd]; rw [if_neg r0]
      rw [e1, show n + 1 + j = n + j.succ by omega]
/-- The first j bits of a word. -/
def ct (W k j : Nat) : Nat := k - k % 2 ^ (W - j)
/-- What a list has under a key. -/
def val (L : List En) (k n : Nat) : Option Int := (L.find? (fun e => e.k == k && e.n == n)).map (fun e => e.v)
theorem val_mem {L : List En} (h : srt L) {k n : Nat} {v : Int} : val L k n = some v ↔ (⟨k, n, v⟩ : En) ∈ L := by
  unfold val
  constructor
  · intro q
    rw [Option.map_eq_some_iff] at q
    obtain ⟨e, q1, q2⟩ := q
    have h1 := List.find?_some q1
    have h2 := List.mem_of_find?_eq_some q1
    simp at h1
    obtain ⟨a, b, c⟩ := e
    simp only at *
    rw [← h1.1, ← h1.2, ← q2]; exact h2
  · intro q
    cases hf : L.find? (fun e => e.k == k && e.n == n) with
    | none =>
      have := List.find?_eq_none.1 hf _ q
      simp at this
    | some e =>
      have h1 := List.find?_some hf
      have h2 := List.mem_of_find?_eq_some hf
      simp at h1
      have := srt_key h h2 q h1.1 h1.2
      rw [this]; rfl
theorem val_none {L : List En} (h : srt L) {k n : Nat} : val L k n = none ↔ ∀ v, (⟨k, n, v⟩ : En) ∉ L := by
  constructor
  · intro q v hv
    rw [(val_mem h).2 hv] at q; cases q
  · intro q
    cases hv : val L k n with
    | none => rfl
    | some v => exact absurd ((val_mem h).1 hv) (q v)
/-- The keys of a list that begin one, the shortest first. -/
def abv (W : Nat) (L : List En) (k n : Nat) : List En := (List.range (n + 1)).filterMap (fun j => (val L (ct W k j) j).map (fun v => (⟨ct W k j, j, v⟩ : En)))
def pk (W : Nat) (A : List Nd) (k : Nat) (x : Nat × Nat) : Option En := if (gt A x.2).h then some ⟨ct W k x.1, x.1, (gt A x.2).v⟩ else none
theorem ct_mod (W k j : Nat) : ct W k j % 2 ^ (W - j) = 0 := by
  unfold ct
  have := Nat.div_add_mod k (2 ^ (W - j))
  rw [show k - k % 2 ^ (W - j) = 2 ^ (W - j) * (k / 2 ^ (W - j)) by omega]
  simp
theorem ct_le (W k j : Nat) : ct W k j ≤ k := by unfold ct; omega
theorem sid_ct {W k j i : Nat} (hj : j ≤ W) (hi : W - j ≤ i) : sid (ct W k j) (i + 1) = sid k (i + 1) := by
  unfold sid
  rw [Nat.add_sub_cancel]
  have e : ct W k j / 2 ^ i = k / 2 ^ i := by
    obtain ⟨m, rfl⟩ : ∃ m, i = (W - j) + m := ⟨i - (W - j), by omega⟩
    rw [Nat.pow_add, ← Nat.div_div_eq_div_mul, ← Nat.div_div_eq_div_mul]
    congr 1
    unfold ct
    have := Nat.div_add_mod k (2 ^ (W - j))
    rw [show k - k % 2 ^ (W - j) = 2 ^ (W - j) * (k / 2 ^ (W - j)) by omega, Nat.mul_div_cancel_left _ (Nat.two_pow_pos _)]
  rw [e]
theorem fnd_ct {A : List Nd} {W k j : Nat} (hj : j ≤ W) : ∀ {d h r : Nat}, d ≤ h → W - j + d ≤ h → fnd A d h r (ct W k j) = fnd A d h r k
  | 0, h, r, _, _ => rfl
  | d + 1, h, r, hd, hw => by
    obtain ⟨h, rfl⟩ : ∃ h', h = h' + 1 := ⟨h - 1, by omega⟩
    simp only [fnd]
    rw [sid_ct hj (by omega), Nat.add_sub_cancel, fnd_ct hj (by omega) (by omega)]
theorem abv_pth {W : Nat} {A : List Nd} {r k n : Nat} (hn : n ≤ W) (hk : k < 2 ^ W) (o : okT A W r) : (pth A n W r k 0).filterMap (pk W A k) = abv W (tel W A W r 0) k n := by
  have hs : srt (tel W A W r 0) := tel_srt (Nat.le_refl _) (by simp)
  unfold abv
  rw [pth_fnd, List.filterMap_filterMap]
  apply fm_congr
  intro j hj
  have hj' : j ≤ W := by have := List.mem_range.1 hj; omega
  have hm := fun v => fnd_mem (W := W) (A := A) (d := j) (h := W) (r := r) (k := ct W k j) (key := 0) (v := v) hj' (Nat.le_refl _) (by simp) (by omega) (by have := ct_le W k j; omega) (ct_mod W k j)
  rw [fnd_ct hj' hj' (by omega)] at hm
  simp only [Nat.sub_self, Nat.zero_add] at hm
  simp only [Nat.zero_add]
  by_cases h0 : fnd A j W r k = 0
  · rw [if_pos h0, (val_none hs).2 (fun v hv => ((hm v).1 hv).1 h0)]; rfl
  · rw [if_neg h0]
    simp only [Option.bind_some, pk]
    by_cases hh : (gt A (fnd A j W r k)).h = true
    · rw [if_pos hh, (val_mem hs).2 ((hm _).2 ⟨h0, hh, rfl⟩)]; rfl
    · rw [if_neg hh, (val_none hs).2 (fun v hv => hh ((hm v).1 hv).2.1)]; rfl
end Go.Proofs.Ytfbkjghipahipaa
