/-
  Boxes within one another: no more headers; as many just if both ways. No program is named here.
-/
import Derived.Test.YtebljklpkoheaaaGreatRuPlB
import Derived.Test.YtebljklpkoheaaaGreatMkPlC
namespace Go.Proofs.YtebljklpkoheaaaGreat
set_option linter.unusedVariables false

theorem lessN_nil {v c x d : Nat} : ∀ n, lessN v c x d n = [] → ∀ i, i < n → cut c d i = false
  | 0, _, i, hi => absurd hi (by omega)
  | n + 1, h, i, hi => by
    unfold lessN at h
    split at h
    · simp at h
    · by_cases e : i = n
      · subst e; simpa using (by assumption : ¬ cut c d i = true)
      · exact lessN_nil n h i (by omega)
theorem cut_nil {s t : Nat × Nat} (h : cutI s t = []) : meetI s t = s := by
  unfold cutI belI aboI at h
  rw [List.append_eq_nil_iff] at h
  obtain ⟨h1, h2⟩ := h
  split at h1
  · cases h1
  · split at h2
    · cases h2
    · rw [meet_left]
      unfold meetI at *
      simp only at *
      omega
theorem cntX_pos {X : Bx} (h : okX X = true) : 0 < cntX X := by
  obtain ⟨h1, h2, h3, h4, h5⟩ := (okX_iff X).1 h
  have a1 := of_decide_eq_true h1
  have a2 := of_decide_eq_true h2
  have a3 := of_decide_eq_true h3
  have a4 := of_decide_eq_true h4
  unfold cntX
  rw [if_pos h]
  have p1 : 0 < cntI X.a := by unfold cntI; omega
  have p2 : 0 < cntI X.b := by unfold cntI; omega
  have p3 : 0 < cntI X.c := by unfold cntI; omega
  have p4 : 0 < cntI X.d := by unfold cntI; omega
  have p5 : 0 < cntM X.m.1 X.m.2 := by unfold cntM; rw [if_pos h5]; exact Nat.pow_pos (by decide)
  exact Nat.mul_pos (Nat.mul_pos (Nat.mul_pos (Nat.mul_pos p1 p2) p3) p4) p5
theorem wi_iff {X Y : Bx} : wiX X Y = true ↔ bothX X Y = true ∧ meetB X Y = X := by
  unfold wiX
  rw [Bool.and_eq_true, decide_eq_true_eq]
theorem wi_cnt {X Y : Bx} (bX : BdX X) (bY : BdX Y) (h : wiX X Y = true) : ((lessB Y X).map cntX).sum + cntX X = cntX Y := by
  obtain ⟨h1, h2⟩ := wi_iff.1 h
  have e := lessB_cnt (X := Y) (Y := X) (by rw [bothX_comm]; exact h1) bY bX
  rw [meetB_comm, h2] at e
  exact e
theorem wi_le {X Y : Bx} (bX : BdX X) (bY : BdX Y) (h : wiX X Y = true) : cntX X ≤ cntX Y := by
  have := wi_cnt bX bY h
  omega
theorem lessM_nil {v c x d : Nat} (h1 : okM v c = true) (h2 : okM x d = true) (ha : apM v c x d = false) (hx : x < 256) (hd : d < 256) (h : lessM v c x d = []) : v ||| x = v ∧ c ||| d = c := by
  rw [lessM_in h1 h2 ha] at h
  have hn := lessN_nil 8 h
  have key : ∀ k, k ≤ 8 → rv v x k = v ∧ rv c d k = c := by
    intro k
    induction k with
    | zero => intro _; exact ⟨rv_zero hx, rv_zero hd⟩
    | succ k ih =>
      intro hk
      obtain ⟨i1, i2⟩ := ih (by omega)
      have hc := hn k (by omega)
      exact ⟨(rv_stay' (by omega) h1 h2 ha hc).trans i1, (rc_stay (by omega) hc).trans i2⟩
  have := key 8 (Nat.le_refl _)
  unfold rv at this
  rw [hi_all, hi_all] at this
  exact this
theorem sum_zero {l : List Bx} (h : (l.map cntX).sum = 0) (hp : ∀ Z ∈ l, 0 < cntX Z) : l = [] := by
  cases l with
  | nil => rfl
  | cons a l =>
    have := hp a (List.mem_cons_self ..)
    simp only [List.map_cons, List.sum_cons] at h
    omega
theorem less_nil {X Y : Bx} (bY : BdX Y) (h : bothX X Y = true) (hl : lessB X Y = []) : meetB X Y = X := by
  obtain ⟨hx, hy, hap, _⟩ := (bothX_iff X Y).1 h
  have xm := ((okX_iff X).1 hx).2.2.2.2
  have ym := ((okX_iff Y).1 hy).2.2.2.2
  unfold lessB at hl
  simp only [List.append_eq_nil_iff, List.map_eq_nil_iff] at hl
  obtain ⟨h1, h2, h3, h4, h5⟩ := hl
  obtain ⟨e1, e2⟩ := lessM_nil xm ym hap bY.2.2.2.2.2.2.2.2.1 bY.2.2.2.2.2.2.2.2.2 h5
  unfold meetB
  rw [cut_nil h1, cut_nil h2, cut_nil h3, cut_nil h4, e1, e2]
/-- One within another has as many headers just if the other lies within it, too. -/
theorem wi_same {X Y : Bx} (bX : BdX X) (bY : BdX Y) (h : wiX X Y = true) : cntX X = cntX Y ↔ wiX Y X = true := by
  obtain ⟨h1, h2⟩ := wi_iff.1 h
  have hs := wi_cnt bX bY h
  have hb : bothX Y X = true := by rw [bothX_comm]; exact h1
  constructor
  · intro e
    refine wi_iff.2 ⟨hb, less_nil bX hb (sum_zero (by omega) fun Z hZ => cntX_pos (lessB_each hb Z hZ).1)⟩
  · intro e
    obtain ⟨_, e2⟩ := wi_iff.1 e
    rw [meetB_comm, h2] at e2
    rw [e2]
/-- Within is an order of sets. -/
theorem wi_trans {X Y Z : Bx} (h1 : wiX X Y = true) (h2 : wiX Y Z = true) : meetB X Z = X := by
  obtain ⟨_, e1⟩ := wi_iff.1 h1
  obtain ⟨_, e2⟩ := wi_iff.1 h2
  rw [← e1]
  conv => rhs; rw [← e2]
  unfold meetB meetI
  simp only [Nat.max_assoc, Nat.min_assoc, Nat.or_assoc]
end Go.Proofs.YtebljklpkoheaaaGreat
