/-
  Boxes: the parts of one without another: each header in just one of them and of what is shared; as many in all; each part within the one, apart from the other. No program is named here.
-/
import Derived.Test.YtebljklpkoheaaaGreatBxPlB
namespace Go.Proofs.YtebljklpkoheaaaGreat
set_option linter.unusedVariables false

/-- Numbers that fit their fields. -/
def BdX (X : Bx) : Prop := X.a.1 < 4294967296 ∧ X.a.2 < 4294967296 ∧ X.b.1 < 4294967296 ∧ X.b.2 < 4294967296 ∧ X.c.1 < 65536 ∧ X.c.2 < 65536 ∧ X.d.1 < 65536 ∧ X.d.2 < 65536 ∧ X.m.1 < 256 ∧ X.m.2 < 256
theorem okX_iff (X : Bx) : okX X = true ↔ okI X.a = true ∧ okI X.b = true ∧ okI X.c = true ∧ okI X.d = true ∧ okM X.m.1 X.m.2 = true := by
  unfold okX
  simp only [Bool.and_eq_true, and_assoc]
theorem bothX_iff (X Y : Bx) : bothX X Y = true ↔ okX X = true ∧ okX Y = true ∧ apM X.m.1 X.m.2 Y.m.1 Y.m.2 = false ∧ okI (meetI X.a Y.a) = true ∧ okI (meetI X.b Y.b) = true ∧ okI (meetI X.c Y.c) = true ∧ okI (meetI X.d Y.d) = true := by
  unfold bothX
  rw [Bool.and_eq_true, Bool.and_eq_true, Bool.and_eq_true, Bool.not_eq_true', okX_iff (meetB X Y)]
  unfold meetB
  simp only
  constructor
  · rintro ⟨⟨⟨h1, h2⟩, h3⟩, h4, h5, h6, h7, _⟩
    exact ⟨h1, h2, h3, h4, h5, h6, h7⟩
  · rintro ⟨h1, h2, h3, h4, h5, h6, h7⟩
    exact ⟨⟨⟨h1, h2⟩, h3⟩, h4, h5, h6, h7, meet_ok ((okX_iff X).1 h1).2.2.2.2 ((okX_iff Y).1 h2).2.2.2.2⟩
def wiX (X Y : Bx) : Bool := bothX X Y && decide (meetB X Y = X)
theorem mem_lessB {X Y Z : Bx} (h : Z ∈ lessB X Y) : (∃ s ∈ cutI X.a Y.a, Z = ⟨s, X.b, X.c, X.d, X.m⟩) ∨ (∃ s ∈ cutI X.b Y.b, Z = ⟨meetI X.a Y.a, s, X.c, X.d, X.m⟩)
    ∨ (∃ s ∈ cutI X.c Y.c, Z = ⟨meetI X.a Y.a, meetI X.b Y.b, s, X.d, X.m⟩) ∨ (∃ s ∈ cutI X.d Y.d, Z = ⟨meetI X.a Y.a, meetI X.b Y.b, meetI X.c Y.c, s, X.m⟩)
    ∨ (∃ k ∈ lessM X.m.1 X.m.2 Y.m.1 Y.m.2, Z = ⟨meetI X.a Y.a, meetI X.b Y.b, meetI X.c Y.c, meetI X.d Y.d, k⟩) := by
  unfold lessB at h
  simp only [List.mem_append, List.mem_map] at h
  rcases h with ⟨s, hs, rfl⟩ | ⟨s, hs, rfl⟩ | ⟨s, hs, rfl⟩ | ⟨s, hs, rfl⟩ | ⟨s, hs, rfl⟩
  · exact .inl ⟨s, hs, rfl⟩
  · exact .inr (.inl ⟨s, hs, rfl⟩)
  · exact .inr (.inr (.inl ⟨s, hs, rfl⟩))
  · exact .inr (.inr (.inr (.inl ⟨s, hs, rfl⟩)))
  · exact .inr (.inr (.inr (.inr ⟨s, hs, rfl⟩)))
theorem meetI_self (s : Nat × Nat) : meetI s s = s := by unfold meetI; rw [Nat.max_self, Nat.min_self]
theorem meetI_in (s t : Nat × Nat) : meetI (meetI s t) s = meetI s t := by
  unfold meetI; simp only; rw [Prod.mk.injEq]; omega
theorem apM_self (v c : Nat) : apM v c v c = false := by rw [apM_iff]; intros; rfl
/-- A part within the one, of which a field is apart from the other's. -/
theorem part_of {X Z : Bx} (hz : okX Z = true) (hx : okX X = true) (h1 : meetI Z.a X.a = Z.a) (h2 : meetI Z.b X.b = Z.b) (h3 : meetI Z.c X.c = Z.c) (h4 : meetI Z.d X.d = Z.d)
    (h5 : apM Z.m.1 Z.m.2 X.m.1 X.m.2 = false) (h6 : Z.m.1 ||| X.m.1 = Z.m.1) (h7 : Z.m.2 ||| X.m.2 = Z.m.2) : wiX Z X = true := by
  have hz' := (okX_iff Z).1 hz
  have e : meetB Z X = Z := by
    unfold meetB
    rw [h1, h2, h3, h4, h6, h7]
  unfold wiX
  rw [e, (bothX_iff Z X).2 ⟨hz, hx, h5, by rw [h1]; exact hz'.1, by rw [h2]; exact hz'.2.1, by rw [h3]; exact hz'.2.2.1, by rw [h4]; exact hz'.2.2.2.1⟩]
  simp
theorem not_both {Z Y : Bx} (h : okI (meetI Z.a Y.a) = false ∨ okI (meetI Z.b Y.b) = false ∨ okI (meetI Z.c Y.c) = false ∨ okI (meetI Z.d Y.d) = false ∨ apM Z.m.1 Z.m.2 Y.m.1 Y.m.2 = true) : bothX Z Y = false := by
  rw [← Bool.not_eq_true, bothX_iff]
  rintro ⟨_, _, h3, h4, h5, h6, h7⟩
  rcases h with h | h | h | h | h
  · rw [h4] at h; cases h
  · rw [h5] at h; cases h
  · rw [h6] at h; cases h
  · rw [h7] at h; cases h
  · rw [h3] at h; cases h
theorem lessB_each {X Y : Bx} (h : bothX X Y = true) : ∀ Z ∈ lessB X Y, okX Z = true ∧ bothX Z Y = false ∧ wiX Z X = true := by
  obtain ⟨hx, hy, hap, ia, ib, ic, id⟩ := (bothX_iff X Y).1 h
  obtain ⟨xa, xb, xc, xd, xm⟩ := (okX_iff X).1 hx
  obtain ⟨ya, yb, yc, yd, ym⟩ := (okX_iff Y).1 hy
  intro Z hZ
  rcases mem_lessB hZ with ⟨s, hs, rfl⟩ | ⟨s, hs, rfl⟩ | ⟨s, hs, rfl⟩ | ⟨s, hs, rfl⟩ | ⟨k, hk, rfl⟩
  · obtain ⟨c1, c2, c3, c4, c5⟩ := cutI_each ia s hs
    have ok : okX ⟨s, X.b, X.c, X.d, X.m⟩ = true := (okX_iff _).2 ⟨c1, xb, xc, xd, xm⟩
    exact ⟨ok, not_both (.inl c4), part_of ok hx c5 (meetI_self _) (meetI_self _) (meetI_self _) (apM_self _ _) (Nat.or_self _) (Nat.or_self _)⟩
  · obtain ⟨c1, c2, c3, c4, c5⟩ := cutI_each ib s hs
    have ok : okX ⟨meetI X.a Y.a, s, X.c, X.d, X.m⟩ = true := (okX_iff _).2 ⟨ia, c1, xc, xd, xm⟩
    exact ⟨ok, not_both (.inr (.inl c4)), part_of ok hx (meetI_in _ _) c5 (meetI_self _) (meetI_self _) (apM_self _ _) (Nat.or_self _) (Nat.or_self _)⟩
  · obtain ⟨c1, c2, c3, c4, c5⟩ := cutI_each ic s hs
    have ok : okX ⟨meetI X.a Y.a, meetI X.b Y.b, s, X.d, X.m⟩ = true := (okX_iff _).2 ⟨ia, ib, c1, xd, xm⟩
    exact ⟨ok, not_both (.inr (.inr (.inl c4))), part_of ok hx (meetI_in _ _) (meetI_in _ _) c5 (meetI_self _) (apM_self _ _) (Nat.or_self _) (Nat.or_self _)⟩
  · obtain ⟨c1, c2, c3, c4, c5⟩ := cutI_each id s hs
    have ok : okX ⟨meetI X.a Y.a, meetI X.b Y.b, meetI X.c Y.c, s, X.m⟩ = true := (okX_iff _).2 ⟨ia, ib, ic, c1, xm⟩
    exact ⟨ok, not_both (.inr (.inr (.inr (.inl c4)))), part_of ok hx (meetI_in _ _) (meetI_in _ _) (meetI_in _ _) c5 (apM_self _ _) (Nat.or_self _) (Nat.or_self _)⟩
  · obtain ⟨c1, c2, c3⟩ := lessM_each xm ym k hk
    have ok : okX ⟨meetI X.a Y.a, meetI X.b Y.b, meetI X.c Y.c, meetI X.d Y.d, k⟩ = true := (okX_iff _).2 ⟨ia, ib, ic, id, c1⟩
    unfold wiM at c3
    simp only [Bool.and_eq_true, Bool.not_eq_true', decide_eq_true_eq] at c3
    exact ⟨ok, not_both (.inr (.inr (.inr (.inr c2)))), part_of ok hx (meetI_in _ _) (meetI_in _ _) (meetI_in _ _) (meetI_in _ _) c3.1.2 c3.2.1 c3.2.2⟩
def ind (b : Bool) : Nat := if b = true then 1 else 0
theorem ind_and (a b : Bool) : ind (a && b) = ind a * ind b := by cases a <;> cases b <;> rfl
theorem has_wt {Z : Bx} (h : okX Z = true) (s d p q r : Nat) : ind (hasX Z s d p q r) = wtX (fun t => ind (hasI t s)) (fun t => ind (hasI t d)) (fun t => ind (hasI t p)) (fun t => ind (hasI t q)) (fun t => ind (hasM t.1 t.2 r)) Z := by
  unfold hasX wtX
  rw [h, Bool.true_and, ind_and, ind_and, ind_and, ind_and]
  simp only [Nat.mul_assoc]
theorem cnt_wt {Z : Bx} (h : okX Z = true) : cntX Z = wtX cntI cntI cntI cntI (fun t => cntM t.1 t.2) Z := by
  unfold cntX wtX
  rw [if_pos h]
  simp only [Nat.mul_assoc]
theorem cut_ind {s t : Nat × Nat} (h : okI (meetI s t) = true) (x : Nat) : ((cutI s t).map fun r => ind (hasI r x)).sum + ind (hasI (meetI s t) x) = ind (hasI s x) := by
  have := cutI_count h x
  rw [countP_sum] at this
  exact this
theorem less_ind {v c x d p : Nat} (h1 : okM v c = true) (h2 : okM x d = true) (ha : apM v c x d = false) (hv : v < 256) (hc : c < 256) (hx : x < 256) (hd : d < 256) :
    ((lessM v c x d).map fun k => ind (hasM k.1 k.2 p)).sum + ind (hasM (v ||| x) (c ||| d) p) = ind (hasM v c p) := by
  have := cnt_lessM (p := p) h1 h2 hc hv hd hx
  unfold cnt at this
  rw [countP_sum] at this
  have e : ((lessM v c x d).map fun k => ind (hasM k.1 k.2 p)).sum = _ := this
  rw [e, meet_has h1 h2 ha]
  cases hasM v c p <;> cases hasM x d p <;> rfl
/-- Each header of a box is in just one part, or in what is shared. -/
theorem lessB_has {X Y : Bx} (h : bothX X Y = true) (bx : BdX X) (bY : BdX Y) (s d p q r : Nat) : ((lessB X Y).map fun Z => ind (hasX Z s d p q r)).sum + ind (hasX (meetB X Y) s d p q r) = ind (hasX X s d p q r) := by
  obtain ⟨hx, hy, hap, ia, ib, ic, id⟩ := (bothX_iff X Y).1 h
  obtain ⟨_, _, _, _, xm⟩ := (okX_iff X).1 hx
  obtain ⟨_, _, _, _, ym⟩ := (okX_iff Y).1 hy
  obtain ⟨_, _, _, _, _, _, _, _, bv, bc⟩ := bx
  obtain ⟨_, _, _, _, _, _, _, _, bv', bc'⟩ := bY
  have hm : okX (meetB X Y) = true := (okX_iff _).2 ⟨ia, ib, ic, id, meet_ok xm ym⟩
  rw [sum_congr fun Z hZ => has_wt (lessB_each h Z hZ).1 s d p q r, has_wt hm, has_wt hx]
  exact tele (cut_ind ia s) (cut_ind ib d) (cut_ind ic p) (cut_ind id q) (less_ind (p := r) xm ym hap bv bc bv' bc')
/-- As many headers in all. -/
theorem lessB_cnt {X Y : Bx} (h : bothX X Y = true) (bx : BdX X) (bY : BdX Y) : ((lessB X Y).map cntX).sum + cntX (meetB X Y) = cntX X := by
  obtain ⟨hx, hy, hap, ia, ib, ic, id⟩ := (bothX_iff X Y).1 h
  obtain ⟨_, _, _, _, xm⟩ := (okX_iff X).1 hx
  obtain ⟨_, _, _, _, ym⟩ := (okX_iff Y).1 hy
  obtain ⟨_, _, _, _, _, _, _, _, bv, bc⟩ := bx
  obtain ⟨_, _, _, _, _, _, _, _, bv', bc'⟩ := bY
  have hm : okX (meetB X Y) = true := (okX_iff _).2 ⟨ia, ib, ic, id, meet_ok xm ym⟩
  rw [sum_congr fun Z hZ => cnt_wt (lessB_each h Z hZ).1, cnt_wt hm, cnt_wt hx]
  exact tele (cutI_sum ia) (cutI_sum ib) (cutI_sum ic) (cutI_sum id) (cntM_sum bv bc bv' bc' xm ym hap)
end Go.Proofs.YtebljklpkoheaaaGreat
