/-
  Rows of numbers that grow; two orders of the same numbers are one; comparing rows.
-/
import Derived.Deep.AppendLies
import Derived.Test.YtlfdlifmcabfjaaCvQ
namespace Go.Proofs.Ytlfdlifmcabfjaa
open Go.RowKit Go.Sort
set_option linter.unusedVariables false
set_option linter.unusedSimpArgs false

/-- Two orders of the same numbers are one. -/
theorem so_uniq {key : Int → Int} {d e : Array Int} {n : Nat} (sd : So key d 0 n) (se : So key e 0 n) (m1 : ∀ i, i < n → ∃ j, j < n ∧ d[i]! = (j : Int)) (m2 : ∀ i, i < n → ∃ j, j < n ∧ (i : Int) = d[j]!) (k1 : ∀ i, i < n → ∃ j, j < n ∧ e[i]! = (j : Int)) (k2 : ∀ i, i < n → ∃ j, j < n ∧ (i : Int) = e[j]!) : ∀ k, k < n → d[k]! = e[k]! := by
  have main : ∀ k, k ≤ n → ∀ t, t < k → d[t]! = e[t]! := by
    intro k
    induction k with
    | zero => intro _ t ht; omega
    | succ k ih =>
      intro hk t ht
      by_cases htk : t < k
      · exact ih (by omega) t htk
      · obtain rfl : t = k := by omega
        obtain ⟨j, hj, hdj⟩ := m1 t (by omega)
        obtain ⟨m, hm, hem⟩ := k2 j hj
        obtain ⟨j', hj', hej⟩ := k1 t (by omega)
        obtain ⟨m', hm', hdm⟩ := m2 j' hj'
        have E1 : d[t]! = e[m]! := by rw [hdj, hem]
        have E2 : e[t]! = d[m']! := by rw [hej, hdm]
        have L1 : t ≤ m := by
          rcases Nat.lt_or_ge m t with h | h
          · have := sd m t (Nat.zero_le _) h (by omega)
            rw [ih (by omega) m h, ← E1] at this
            exact (bf_irr this).elim
          · exact h
        have L2 : t ≤ m' := by
          rcases Nat.lt_or_ge m' t with h | h
          · have := se m' t (Nat.zero_le _) h (by omega)
            rw [← ih (by omega) m' h, ← E2] at this
            exact (bf_irr this).elim
          · exact h
        by_cases q1 : m = t
        · rw [E1, q1]
        · by_cases q2 : m' = t
          · rw [E2, q2]
          · have b1 := se t m (Nat.zero_le _) (by omega) hm
            have b2 := sd t m' (Nat.zero_le _) (by omega) hm'
            rw [← E1] at b1
            rw [← E2] at b2
            exact (bf_irr (bf_trans b1 b2)).elim
  exact fun k hk => main n (Nat.le_refl _) k hk
/-- The numbers below n, each somewhere. -/
def Mb (d : Array Int) (n : Nat) : Prop := (∀ i, i < n → ∃ j, j < n ∧ d[i]! = (j : Int)) ∧ ∀ i, i < n → ∃ j, j < n ∧ (i : Int) = d[j]!
theorem mb_sm {d e : Array Int} {n : Nat} (h : Mb d n) (s : Sm 0 n d e) : Mb e n := by
  refine ⟨fun i hi => ?_, fun i hi => ?_⟩
  · obtain ⟨j, _, j2, j3⟩ := s.2.2.1 i (Nat.zero_le _) hi
    rw [j3]; exact h.1 j j2
  · obtain ⟨j, hj, e1⟩ := h.2 i hi
    obtain ⟨k, _, k2, k3⟩ := s.2.2.2 j (Nat.zero_le _) hj
    exact ⟨k, k2, by rw [e1, k3]⟩
/-- The cells of a row. -/
def eL (d : Array Int) : List Value := d.toList.map (Value.int .i64)
theorem eL_at {d : Array Int} {k : Nat} (h : k < d.size) : (eL d)[k]? = some (.int .i64 d[k]!) := by
  unfold eL
  rw [List.getElem?_map, Array.getElem?_toList, Array.getElem?_eq_getElem h, getElem!_pos d k h]; rfl
theorem eL_push (d : Array Int) (x : Int) : eL (d.push x) = eL d ++ [.int .i64 x] := by simp [eL]
theorem eL_set (d : Array Int) (j : Nat) (x : Int) : (eL d).set j (.int .i64 x) = eL (d.setIfInBounds j x) := by simp [eL, List.map_set]
theorem push_at {d : Array Int} {x : Int} {k : Nat} (h : k < d.size) : (d.push x)[k]! = d[k]! := by
  rw [getElem!_pos _ k (by simp; omega), getElem!_pos d k h, Array.getElem_push_lt h]
theorem push_last (d : Array Int) (x : Int) : (d.push x)[d.size]! = x := by
  rw [getElem!_pos _ d.size (by simp)]; simp
theorem mb_push {d : Array Int} {n : Nat} (h : Mb d n) (hn : d.size = n) : Mb (d.push (n : Int)) (n + 1) := by
  refine ⟨fun i hi => ?_, fun i hi => ?_⟩
  · by_cases e : i < n
    · obtain ⟨j, hj, e1⟩ := h.1 i e
      exact ⟨j, by omega, by rw [push_at (by omega)]; exact e1⟩
    · obtain rfl : i = n := by omega
      refine ⟨i, hi, ?_⟩
      have := push_last d (i : Int)
      rwa [hn] at this
  · by_cases e : i < n
    · obtain ⟨j, hj, e1⟩ := h.2 i e
      exact ⟨j, by omega, by rw [push_at (by omega)]; exact e1⟩
    · obtain rfl : i = n := by omega
      refine ⟨i, hi, ?_⟩
      have := push_last d (i : Int)
      rw [hn] at this
      exact this.symm
/-- The two rows. -/
structure Rr (w V : World) (v3 v4 : Value) (d3 d4 : Array Int) : Prop where
  r3 : V.ownsRow w.heap.size 3 1 v3 d3.size (eL d3)
  r4 : V.ownsRow w.heap.size 3 1 v4 d4.size (eL d4)
  ne : ∀ k, v3.ownBlock = some k → v4.ownBlock ≠ some k
  bl : Below w.heap.size w V
theorem rowI_on {w V V' : World} {v : Value} {d : Array Int} {b : Nat} (h : V.ownsRow b 3 1 v d.size (eL d)) (hb : Below V.heap.size V V') : V'.ownsRow b 3 1 v d.size (eL d) := by
  refine ⟨h.1, ?_⟩
  rcases h.2 with h2 | ⟨g, cap, cur, hv, hg, hh, r⟩
  · exact .inl h2
  · exact .inr ⟨g, cap, cur, hv, hg, by rw [hb.block g (Array.getElem?_eq_some_iff.1 hh).1]; exact hh, r⟩
theorem Rr.on {w V V' : World} {v3 v4 : Value} {d3 d4 : Array Int} (h : Rr w V v3 v4 d3 d4) (hb : Below V.heap.size V V') : Rr w V' v3 v4 d3 d4 :=
  ⟨rowI_on (w := w) h.r3 hb, rowI_on (w := w) h.r4 hb, h.ne, h.bl.trans (hb.mono h.bl.size)⟩
theorem Rr.alloc {w V : World} {v3 v4 : Value} {d3 d4 : Array Int} (h : Rr w V v3 v4 d3 d4) (o : Obj) : Rr w (V.alloc o) v3 v4 d3 d4 := h.on ((Below.refl _ _).alloc (Nat.le_refl _) _)
theorem bel_g {w V V' : World} {v : Value} {n : Nat} {xs : List Value} {e : TypeId} {s : Nat} (hb : Below w.heap.size w V) (hr : V.ownsRow w.heap.size e s v n xs) (hg : V.grownBy V' v.ownBlock) : Below w.heap.size w V' :=
  hb.grown hg hb.size fun k hk => (hr.lt k hk).1
theorem Rr.app3 {w V V' : World} {v3 v4 : Value} {d3 d4 : Array Int} {x : Int} {n g cap : Nat} (h : Rr w V v3 v4 d3 d4) (hn : d3.size = n) (ho : V'.ownsRow w.heap.size 3 1 (.slice (some ⟨g, 0, none⟩) (n + 1) cap) (n + 1) (eL d3 ++ [.int .i64 x])) (hg : V.grownBy V' v3.ownBlock) (hat : v3.ownBlock = some g ∨ g = V.heap.size) : Rr w V' (.slice (some ⟨g, 0, none⟩) (n + 1) cap) v4 (d3.push x) d4 := by
  subst hn
  refine ⟨by rw [eL_push, Array.size_push]; exact ho, h.r4.kept hg ?_, fun k hk e => ?_, bel_g h.bl h.r3 hg⟩
  · cases e : v4.ownBlock with
    | none => exact .inl rfl
    | some k => exact .inr (fun e2 => h.ne k e2.symm e)
  · obtain rfl : g = k := by simpa [Value.ownBlock] using hk
    rcases hat with hat | hat
    · exact h.ne _ hat e
    · have := (h.r4.lt _ e).2; omega
theorem Rr.app4 {w V V' : World} {v3 v4 : Value} {d3 d4 : Array Int} {x : Int} {n g cap : Nat} (h : Rr w V v3 v4 d3 d4) (hn : d4.size = n) (ho : V'.ownsRow w.heap.size 3 1 (.slice (some ⟨g, 0, none⟩) (n + 1) cap) (n + 1) (eL d4 ++ [.int .i64 x])) (hg : V.grownBy V' v4.ownBlock) (hat : v4.ownBlock = some g ∨ g = V.heap.size) : Rr w V' v3 (.slice (some ⟨g, 0, none⟩) (n + 1) cap) d3 (d4.push x) := by
  subst hn
  refine ⟨h.r3.kept hg ?_, by rw [eL_push, Array.size_push]; exact ho, fun k hk e => ?_, bel_g h.bl h.r4 hg⟩
  · cases e : v3.ownBlock with
    | none => exact .inl rfl
    | some k => exact .inr (fun e2 => h.ne k e e2.symm)
  · obtain rfl : g = k := by simpa [Value.ownBlock] using e
    rcases hat with hat | hat
    · exact h.ne _ hk hat
    · have := (h.r3.lt _ hk).2; omega
theorem Rr.set3 {w V : World} {v4 : Value} {d3 d4 : Array Int} {g n cap : Nat} (h : Rr w V (.slice (some ⟨g, 0, none⟩) n cap) v4 d3 d4) (hn : n = d3.size) (j : Nat) (x : Int) : Rr w (V.setCell ⟨g, j, none⟩ (.int .i64 x)) (.slice (some ⟨g, 0, none⟩) n cap) v4 (d3.setIfInBounds j x) d4 := by
  subst hn
  obtain ⟨a, b⟩ := h.r3.stored j (.int .i64 x)
  rw [eL_set] at a
  refine ⟨by simpa using a, h.r4.kept b ?_, h.ne, bel_g h.bl h.r3 b⟩
  cases e : v4.ownBlock with
  | none => exact .inl rfl
  | some k => exact .inr (fun e2 => h.ne k (by simpa [Value.ownBlock] using e2.symm) e)
theorem Rr.set4 {w V : World} {v3 : Value} {d3 d4 : Array Int} {g n cap : Nat} (h : Rr w V v3 (.slice (some ⟨g, 0, none⟩) n cap) d3 d4) (hn : n = d4.size) (j : Nat) (x : Int) : Rr w (V.setCell ⟨g, j, none⟩ (.int .i64 x)) v3 (.slice (some ⟨g, 0, none⟩) n cap) d3 (d4.setIfInBounds j x) := by
  subst hn
  obtain ⟨a, b⟩ := h.r4.stored j (.int .i64 x)
  rw [eL_set] at a
  refine ⟨h.r3.kept b ?_, by simpa using a, h.ne, bel_g h.bl h.r4 b⟩
  cases e : v3.ownBlock with
  | none => exact .inl rfl
  | some k => exact .inr (fun e2 => h.ne k e (by simpa [Value.ownBlock] using e2.symm))
theorem Rr.cell3 {w V : World} {v4 : Value} {d3 d4 : Array Int} {g n cap : Nat} (h : Rr w V (.slice (some ⟨g, 0, none⟩) n cap) v4 d3 d4) (hn : n = d3.size) {j : Nat} (hj : j < n) : V.cell? ⟨g, j, none⟩ = some (.int .i64 d3[j]!) ∧ V.frozen? ⟨g, j, none⟩ = false := by
  subst hn
  exact ⟨by rw [h.r3.cellAt j (by omega), eL_at hj], h.r3.frozenAt j⟩
theorem Rr.cell4 {w V : World} {v3 : Value} {d3 d4 : Array Int} {g n cap : Nat} (h : Rr w V v3 (.slice (some ⟨g, 0, none⟩) n cap) d3 d4) (hn : n = d4.size) {j : Nat} (hj : j < n) : V.cell? ⟨g, j, none⟩ = some (.int .i64 d4[j]!) ∧ V.frozen? ⟨g, j, none⟩ = false := by
  subst hn
  exact ⟨by rw [h.r4.cellAt j (by omega), eL_at hj], h.r4.frozenAt j⟩
theorem swp_two {d : Array Int} {j k : Nat} {x y : Int} (hx : x = d[k]!) (hy : y = d[j]!) : (d.setIfInBounds j x).setIfInBounds k y = swp d j k := by rw [hx, hy]; rfl
theorem keys_swp {ks : Int → Int} {d3 d4 : Array Int} {n j k : Nat} (h : ∀ t, t < n → d4[t]! = ks d3[t]!) (h3 : d3.size = n) (h4 : d4.size = n) (hj : j < n) (hk : k < n) (hne : j ≠ k) : ∀ t, t < n → (swp d4 j k)[t]! = ks (swp d3 j k)[t]! := by
  intro t ht
  by_cases e1 : t = j
  · subst e1; rw [swp_left _ _ _ (by omega) hne, swp_left _ _ _ (by omega) hne]; exact h k hk
  · by_cases e2 : t = k
    · subst e2; rw [swp_right _ _ _ (by omega), swp_right _ _ _ (by omega)]; exact h j hj
    · rw [swp_other _ _ _ _ e1 e2, swp_other _ _ _ _ e1 e2]; exact h t ht
set_option maxRecDepth 20000 in
/-- Comparing two rows. -/
theorem intsC (a1 a2 : Option Addr) (n c1 c2 : Nat) (G : Nat → Int) (w : World) (hn : n ≤ 2000) (h1 : ∀ k, k < n → ∃ g, a1 = some ⟨g, 0, none⟩ ∧ w.cell? ⟨g, k, none⟩ = some (.int .i64 (G k))) (h2 : ∀ k, k < n → ∃ g, a2 = some ⟨g, 0, none⟩ ∧ w.cell? ⟨g, k, none⟩ = some (.int .i64 (G k))) :
    Calls Try.prog 24 #[.slice a1 n c1, .slice a2 n c2] w fun e w' => e = .returned (.bool true) ∧ Below w.heap.size w w' := by
  go_enter Try.func24, Try.ntmps24
  go_wp2
  go_loopw [5] (fun vi wr => ∃ i : Nat, i ≤ n ∧ vi = .int .i64 (i : Int) ∧ Hid (Below w.heap.size w wr)) (fun vi _ => n - (intOf vi).toNat)
  case atStart => exact ⟨0, Nat.zero_le _, rfl, Below.refl _ _⟩
  case round =>
    obtain ⟨i, hi, rfl, hb⟩ := hrel
    by_cases hlt : i < n
    · obtain ⟨g1, rfl, y1⟩ := h1 i hlt
      obtain ⟨g2, rfl, y2⟩ := h2 i hlt
      have z1 := cell_on1 hb.out y1
      have z2 := cell_on1 hb.out y2
      have hlti : (i : Int) < (n : Int) := by omega
      clear y1 y2 h1 h2
      generalize G i = gi at *
      go_wp2
      go_quiet (fail)
      go_wp2
      go_roundw
      case rel => exact ⟨i + 1, by omega, by go_num, bel_drewN hb.out _⟩
      case measure => simp [intOf]; omega
    · obtain rfl : i = n := by omega
      have hni : ¬ (i : Int) < (i : Int) := by omega
      go_wp2
      go_ret
      exact ⟨rfl, hb.out⟩
end Go.Proofs.Ytlfdlifmcabfjaa
