/-
  Boxes: what is left of one without another, and what they share: each header in just one part, as many in all. No program is named here.
-/
import Derived.Test.YtebljklpkoheaaaGreatBxPlain
namespace Go.Proofs.YtebljklpkoheaaaGreat
set_option linter.unusedVariables false

theorem sum_mul {α : Type} (l : List α) (f : α → Nat) (k : Nat) : (l.map fun x => f x * k).sum = (l.map f).sum * k := by
  induction l with
  | nil => simp
  | cons a l ih => simp only [List.map_cons, List.sum_cons, ih, Nat.add_mul]
theorem sum_add {α : Type} (l : List α) (f g : α → Nat) : (l.map fun x => f x + g x).sum = (l.map f).sum + (l.map g).sum := by
  induction l with
  | nil => rfl
  | cons a l ih => simp only [List.map_cons, List.sum_cons, ih]; omega
theorem sum_swap {α β : Type} (l : List α) (r : List β) (f : α → β → Nat) : (l.map fun x => (r.map fun y => f x y).sum).sum = (r.map fun y => (l.map fun x => f x y).sum).sum := by
  induction l with
  | nil =>
    simp only [List.map_nil, List.sum_nil]
    induction r with
    | nil => rfl
    | cons b r ih => simp only [List.map_cons, List.sum_cons]; omega
  | cons a l ih => simp only [List.map_cons, List.sum_cons, ih]; rw [sum_add]
theorem countP_sum {α : Type} (l : List α) (f : α → Bool) : l.countP f = (l.map fun x => if f x = true then 1 else 0).sum := by
  induction l with
  | nil => rfl
  | cons a l ih => rw [List.countP_cons, ih, List.map_cons, List.sum_cons, Nat.add_comm]
theorem sum_congr {α : Type} {l : List α} {f g : α → Nat} (h : ∀ x ∈ l, f x = g x) : (l.map f).sum = (l.map g).sum := by
  rw [List.map_congr_left h]
/-- A box's weight, field by field. -/
def wtX (wa wb wc wd wm : Nat × Nat → Nat) (X : Bx) : Nat := wa X.a * (wb X.b * (wc X.c * (wd X.d * wm X.m)))
theorem tele {wa wb wc wd wm : Nat × Nat → Nat} {X Y : Bx} {mm : Nat × Nat}
    (ha : ((cutI X.a Y.a).map wa).sum + wa (meetI X.a Y.a) = wa X.a) (hb : ((cutI X.b Y.b).map wb).sum + wb (meetI X.b Y.b) = wb X.b)
    (hc : ((cutI X.c Y.c).map wc).sum + wc (meetI X.c Y.c) = wc X.c) (hd : ((cutI X.d Y.d).map wd).sum + wd (meetI X.d Y.d) = wd X.d)
    (hm : ((lessM X.m.1 X.m.2 Y.m.1 Y.m.2).map wm).sum + wm mm = wm X.m) :
    ((lessB X Y).map (wtX wa wb wc wd wm)).sum + wtX wa wb wc wd wm ⟨meetI X.a Y.a, meetI X.b Y.b, meetI X.c Y.c, meetI X.d Y.d, mm⟩ = wtX wa wb wc wd wm X := by
  unfold lessB
  simp only [List.map_append, List.sum_append, List.map_map]
  have e1 : (cutI X.a Y.a).map (wtX wa wb wc wd wm ∘ fun s => (⟨s, X.b, X.c, X.d, X.m⟩ : Bx)) = (cutI X.a Y.a).map fun s => wa s * (wb X.b * (wc X.c * (wd X.d * wm X.m))) := rfl
  have e2 : ((cutI X.b Y.b).map (wtX wa wb wc wd wm ∘ fun s => (⟨meetI X.a Y.a, s, X.c, X.d, X.m⟩ : Bx))).sum = wa (meetI X.a Y.a) * (((cutI X.b Y.b).map wb).sum * (wc X.c * (wd X.d * wm X.m))) := by
    rw [← sum_mul, Nat.mul_comm, ← sum_mul]
    exact congrArg List.sum (List.map_congr_left fun s _ => by show wa _ * _ = _; rw [Nat.mul_comm]; )
  have e3 : ((cutI X.c Y.c).map (wtX wa wb wc wd wm ∘ fun s => (⟨meetI X.a Y.a, meetI X.b Y.b, s, X.d, X.m⟩ : Bx))).sum = wa (meetI X.a Y.a) * (wb (meetI X.b Y.b) * (((cutI X.c Y.c).map wc).sum * (wd X.d * wm X.m))) := by
    rw [← sum_mul, Nat.mul_comm (wb (meetI X.b Y.b)), ← sum_mul, Nat.mul_comm, ← sum_mul]
    exact congrArg List.sum (List.map_congr_left fun s _ => by show wa _ * (wb _ * _) = _; rw [Nat.mul_comm, Nat.mul_comm (wb (meetI X.b Y.b))])
  have e4 : ((cutI X.d Y.d).map (wtX wa wb wc wd wm ∘ fun s => (⟨meetI X.a Y.a, meetI X.b Y.b, meetI X.c Y.c, s, X.m⟩ : Bx))).sum = wa (meetI X.a Y.a) * (wb (meetI X.b Y.b) * (wc (meetI X.c Y.c) * (((cutI X.d Y.d).map wd).sum * wm X.m))) := by
    rw [← sum_mul, Nat.mul_comm (wc (meetI X.c Y.c)), ← sum_mul, Nat.mul_comm (wb (meetI X.b Y.b)), ← sum_mul, Nat.mul_comm, ← sum_mul]
    exact congrArg List.sum (List.map_congr_left fun s _ => by show wa _ * (wb _ * (wc _ * _)) = _; rw [Nat.mul_comm, Nat.mul_comm (wb (meetI X.b Y.b)), Nat.mul_comm (wc (meetI X.c Y.c))])
  have e5 : ((lessM X.m.1 X.m.2 Y.m.1 Y.m.2).map (wtX wa wb wc wd wm ∘ fun k => (⟨meetI X.a Y.a, meetI X.b Y.b, meetI X.c Y.c, meetI X.d Y.d, k⟩ : Bx))).sum = wa (meetI X.a Y.a) * (wb (meetI X.b Y.b) * (wc (meetI X.c Y.c) * (wd (meetI X.d Y.d) * ((lessM X.m.1 X.m.2 Y.m.1 Y.m.2).map wm).sum))) := by
    rw [Nat.mul_comm (wd (meetI X.d Y.d)), ← sum_mul, Nat.mul_comm (wc (meetI X.c Y.c)), ← sum_mul, Nat.mul_comm (wb (meetI X.b Y.b)), ← sum_mul, Nat.mul_comm, ← sum_mul]
    exact congrArg List.sum (List.map_congr_left fun s _ => by show wa _ * (wb _ * (wc _ * (wd _ * _))) = _; rw [Nat.mul_comm, Nat.mul_comm (wb (meetI X.b Y.b)), Nat.mul_comm (wc (meetI X.c Y.c)), Nat.mul_comm (wd (meetI X.d Y.d))])
  rw [e1, sum_mul, e2, e3, e4, e5]
  show _ + wa (meetI X.a Y.a) * (wb (meetI X.b Y.b) * (wc (meetI X.c Y.c) * (wd (meetI X.d Y.d) * wm mm))) = wa X.a * (wb X.b * (wc X.c * (wd X.d * wm X.m)))
  rw [← ha, ← hb, ← hc, ← hd, ← hm]
  simp only [Nat.mul_add, Nat.add_mul]
  omega
/-- As many protocols in all. -/
theorem cntM_sum {v c x d : Nat} (hv : v < 256) (hc : c < 256) (hx : x < 256) (hd : d < 256) (h1 : okM v c = true) (h2 : okM x d = true) (ha : apM v c x d = false) :
    ((lessM v c x d).map fun k => cntM k.1 k.2).sum + cntM (v ||| x) (c ||| d) = cntM v c := by
  have key : ∀ u e, u < 256 → e < 256 → cntM u e = ((List.range 256).map fun p => if hasM u e p = true then 1 else 0).sum := by
    intro u e hu he
    rw [← allN_length u e hu he]
    unfold allN
    rw [← List.countP_eq_length_filter, countP_sum]
  have e1 : ((lessM v c x d).map fun k => cntM k.1 k.2).sum = ((lessM v c x d).map fun k => ((List.range 256).map fun p => if hasM k.1 k.2 p = true then 1 else 0).sum).sum :=
    sum_congr fun k hk => key _ _ (lessM_lt hv hc hx hd k hk).1 (lessM_lt hv hc hx hd k hk).2
  rw [e1, sum_swap, key _ _ (or_lt hv hx) (or_lt hc hd), key v c hv hc, ← sum_add]
  refine sum_congr fun p _ => ?_
  have := cnt_lessM (p := p) h1 h2 hc hv hd hx
  unfold cnt at this
  rw [countP_sum] at this
  rw [this, meet_has h1 h2 ha]
  cases hasM v c p <;> cases hasM x d p <;> rfl
end Go.Proofs.YtebljklpkoheaaaGreat
