/-
  Boxes: how many parts; numbers that fit; a count of two halves, times a number of at most 33 bits. No program is named here.
-/
import Derived.Test.YtebljklpkoheaaaGreatBxPlC
namespace Go.Proofs.YtebljklpkoheaaaGreat
set_option linter.unusedVariables false

theorem cutI_len (s t : Nat × Nat) : (cutI s t).length ≤ 2 := by
  unfold cutI belI aboI
  rw [List.length_append]
  split <;> split <;> simp
theorem lessB_len (X Y : Bx) : (lessB X Y).length ≤ 16 := by
  unfold lessB
  simp only [List.length_append, List.length_map]
  have h1 := cutI_len X.a Y.a
  have h2 := cutI_len X.b Y.b
  have h3 := cutI_len X.c Y.c
  have h4 := cutI_len X.d Y.d
  have h5 := lessM_le X.m.1 X.m.2 Y.m.1 Y.m.2
  omega
theorem lessX_len (X Y : Bx) : (lessX X Y).length ≤ 16 := by
  unfold lessX
  split
  · split
    · exact lessB_len X Y
    · simp
  · simp
theorem meetI_lt {s t : Nat × Nat} {n : Nat} (h1 : s.1 < n ∧ s.2 < n) (h2 : t.1 < n) : (meetI s t).1 < n ∧ (meetI s t).2 < n := by
  unfold meetI; simp only; omega
theorem cutI_lt {s t : Nat × Nat} {n : Nat} (h : okI (meetI s t) = true) (h1 : s.1 < n ∧ s.2 < n) (h2 : t.1 < n) : ∀ r ∈ cutI s t, r.1 < n ∧ r.2 < n := by
  intro r hr
  obtain ⟨c1, c2, c3, _, _⟩ := cutI_each h r hr
  have c1 := of_decide_eq_true c1
  omega
theorem lessB_bd {X Y : Bx} (h : bothX X Y = true) (bx : BdX X) (bY : BdX Y) : ∀ Z ∈ lessB X Y, BdX Z := by
  obtain ⟨hx, hy, hap, ia, ib, ic, id⟩ := (bothX_iff X Y).1 h
  obtain ⟨x1, x2, x3, x4, x5, x6, x7, x8, x9, x0⟩ := bx
  obtain ⟨y1, y2, y3, y4, y5, y6, y7, y8, y9, y0⟩ := bY
  have ma := meetI_lt (s := X.a) (t := Y.a) ⟨x1, x2⟩ y1
  have mb := meetI_lt (s := X.b) (t := Y.b) ⟨x3, x4⟩ y3
  have mc := meetI_lt (s := X.c) (t := Y.c) ⟨x5, x6⟩ y5
  have md := meetI_lt (s := X.d) (t := Y.d) ⟨x7, x8⟩ y7
  intro Z hZ
  rcases mem_lessB hZ with ⟨s, hs, rfl⟩ | ⟨s, hs, rfl⟩ | ⟨s, hs, rfl⟩ | ⟨s, hs, rfl⟩ | ⟨k, hk, rfl⟩
  · have c := cutI_lt ia ⟨x1, x2⟩ y1 s hs
    exact ⟨c.1, c.2, x3, x4, x5, x6, x7, x8, x9, x0⟩
  · have c := cutI_lt ib ⟨x3, x4⟩ y3 s hs
    exact ⟨ma.1, ma.2, c.1, c.2, x5, x6, x7, x8, x9, x0⟩
  · have c := cutI_lt ic ⟨x5, x6⟩ y5 s hs
    exact ⟨ma.1, ma.2, mb.1, mb.2, c.1, c.2, x7, x8, x9, x0⟩
  · have c := cutI_lt id ⟨x7, x8⟩ y7 s hs
    exact ⟨ma.1, ma.2, mb.1, mb.2, mc.1, mc.2, c.1, c.2, x9, x0⟩
  · have c := lessM_lt x9 x0 y9 y0 k hk
    exact ⟨ma.1, ma.2, mb.1, mb.2, mc.1, mc.2, md.1, md.2, c.1, c.2⟩
theorem meetB_bd {X Y : Bx} (bx : BdX X) (bY : BdX Y) : BdX (meetB X Y) := by
  obtain ⟨x1, x2, x3, x4, x5, x6, x7, x8, x9, x0⟩ := bx
  obtain ⟨y1, y2, y3, y4, y5, y6, y7, y8, y9, y0⟩ := bY
  have ma := meetI_lt (s := X.a) (t := Y.a) ⟨x1, x2⟩ y1
  have mb := meetI_lt (s := X.b) (t := Y.b) ⟨x3, x4⟩ y3
  have mc := meetI_lt (s := X.c) (t := Y.c) ⟨x5, x6⟩ y5
  have md := meetI_lt (s := X.d) (t := Y.d) ⟨x7, x8⟩ y7
  exact ⟨ma.1, ma.2, mb.1, mb.2, mc.1, mc.2, md.1, md.2, or_lt x9 y9, or_lt x0 y0⟩
theorem lessX_bd {X Y : Bx} (bx : BdX X) (bY : BdX Y) : ∀ Z ∈ lessX X Y, BdX Z := by
  unfold lessX
  intro Z hZ
  split at hZ
  · split at hZ
    · exact lessB_bd (by assumption) bx bY Z hZ
    · rw [List.mem_singleton] at hZ; rw [hZ]; exact bx
  · cases hZ
theorem meetI_comm (s t : Nat × Nat) : meetI s t = meetI t s := by unfold meetI; rw [Nat.max_comm, Nat.min_comm]
theorem meetB_comm (X Y : Bx) : meetB X Y = meetB Y X := by
  unfold meetB
  rw [meetI_comm X.a, meetI_comm X.b, meetI_comm X.c, meetI_comm X.d, Nat.or_comm X.m.1, Nat.or_comm X.m.2]
theorem bothX_comm (X Y : Bx) : bothX X Y = bothX Y X := by
  unfold bothX
  rw [Bool.and_comm (okX X), apM_comm, meetB_comm]
/-- Two halves of a number. -/
def hiW (n : Nat) : Nat := n / 18446744073709551616
def loW (n : Nat) : Nat := n % 18446744073709551616
theorem cntX_le {X : Bx} (b : BdX X) : cntX X ≤ 20282409603651670423947251286016 := by
  obtain ⟨x1, x2, x3, x4, x5, x6, x7, x8, x9, x0⟩ := b
  unfold cntX
  split
  · have h1 : cntI X.a ≤ 4294967296 := by unfold cntI; omega
    have h2 : cntI X.b ≤ 4294967296 := by unfold cntI; omega
    have h3 : cntI X.c ≤ 65536 := by unfold cntI; omega
    have h4 : cntI X.d ≤ 65536 := by unfold cntI; omega
    have h5 := cntM_le X.m.1 X.m.2 x9 x0
    have := Nat.mul_le_mul (Nat.mul_le_mul (Nat.mul_le_mul (Nat.mul_le_mul h1 h2) h3) h4) h5
    exact this
  · omega
/-- Two halves times a number, as the document reckons it. -/
theorem times_is {n k : Nat} (hk : k ≤ 8589934591) (hn : n * k < 340282366920938463463374607431768211456) :
    hiW (n * k) = hiW n * k + (loW n / 4294967296 * k + loW n % 4294967296 * k / 4294967296) / 4294967296 ∧
    loW (n * k) = (loW n / 4294967296 * k + loW n % 4294967296 * k / 4294967296) % 4294967296 * 4294967296 + loW n % 4294967296 * k % 4294967296 := by
  unfold hiW loW
  have e1 := Nat.div_add_mod n 18446744073709551616
  generalize n / 18446744073709551616 = H at *
  generalize hL : n % 18446744073709551616 = L at *
  have hL' : L < 18446744073709551616 := by rw [← hL]; exact Nat.mod_lt _ (by decide)
  have e2 := Nat.div_add_mod L 4294967296
  generalize hP : L / 4294967296 = P at *
  generalize hQ : L % 4294967296 = Q at *
  have hn2 : n * k = 18446744073709551616 * (H * k) + (4294967296 * (P * k) + Q * k) := by
    rw [← e1, ← e2]
    simp only [Nat.add_mul, Nat.mul_assoc]
  rw [hn2]
  generalize H * k = A
  generalize P * k = B
  generalize Q * k = C
  omega
end Go.Proofs.YtebljklpkoheaaaGreat
