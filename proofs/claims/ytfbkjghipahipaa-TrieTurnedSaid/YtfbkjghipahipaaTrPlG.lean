/-
  What holds of a whole trie between its calls, and what each call makes of it. No program is named here.
-/
import Derived.Test.YtfbkjghipahipaaTrPlF
namespace Go.Proofs.Ytfbkjghipahipaa
set_option linter.unusedVariables false
set_option linter.unusedSimpArgs false

/-- Every number that stands in the arena is one of a place. -/
def Bd (s : Ar) : Prop := s.f ≤ s.A.length ∧ ∀ p, (gt s.A p).a ≤ s.A.length ∧ (gt s.A p).b ≤ s.A.length
theorem gt_out {A : List Nd} {p : Nat} (h : A.length < p) : gt A p = ndZ := by unfold gt; rw [List.getElem?_eq_none (by omega)]; rfl
theorem bd_set {A : List Nd} {f f' c c' r : Nat} {x : Nd} (h : Bd ⟨A, f, c⟩) (h1 : 1 ≤ r) (hl : r ≤ A.length) (ha : x.a ≤ A.length) (hb : x.b ≤ A.length) (hf : f' ≤ A.length) : Bd ⟨A.set (r - 1) x, f', c'⟩ := by
  obtain ⟨_, h2⟩ := h
  refine ⟨by simpa using hf, fun p => ?_⟩
  simp only [List.length_set]
  by_cases h0 : p = 0
  · subst h0
    have e : gt (A.set (r - 1) x) 0 = gt (A.set (r - 1) x) 1 := rfl
    rw [e, gt_set h1 hl (Nat.le_refl _)]
    split
    · exact ⟨ha, hb⟩
    · exact h2 1
  · rw [gt_set h1 hl (by omega)]
    split
    · exact ⟨ha, hb⟩
    · exact h2 p
theorem bd_tkr {s : Ar} {r : Nat} (h : Bd s) (hr : r ≤ s.A.length) : Bd (tkr s r).1 ∧ 1 ≤ (tkr s r).2 ∧ (tkr s r).2 ≤ (tkr s r).1.A.length ∧ s.A.length ≤ (tkr s r).1.A.length ∧ (tkr s r).1.A.length ≤ s.A.length + 1 ∧ (tkr s r).1.c ≤ s.c + 1 := by
  obtain ⟨A, f, c⟩ := s
  unfold tkr tak
  by_cases h0 : r = 0
  · rw [if_pos h0]
    dsimp only at *
    by_cases hf : f = 0
    · rw [if_pos hf]
      refine ⟨⟨by simp, fun p => ?_⟩, by simp, by simp, by simp, by simp, Nat.le_refl _⟩
      simp only [List.length_append, List.length_cons, List.length_nil]
      have h2 := h.2
      by_cases hp : p ≤ A.length
      · by_cases p0 : p = 0
        · subst p0
          cases A with
          | nil => simp [gt, ndZ]
          | cons x A => have := h2 0; simp [gt] at this ⊢; omega
        · rw [gt_app (by omega) hp]; have := h2 p; simp only at this; omega
      · by_cases q : p = A.length + 1
        · rw [q, gt_last]; simp [ndZ]
        · rw [gt_out (by simp; omega)]; simp [ndZ]
    · rw [if_neg hf]
      have hl := h.1
      dsimp only at *
      refine ⟨bd_set h (by omega) hl (by simp [ndZ]) (by simp [ndZ]) (h.2 f).1, by omega, by simpa using hl, by simp, by simp, Nat.le_refl _⟩
  · rw [if_neg h0]
    exact ⟨h, by simp only; omega, hr, Nat.le_refl _, by simp, by simp⟩
theorem kid_le {s : Ar} (h : Bd s) (r i : Nat) : kidA (gt s.A r) i ≤ s.A.length := by
  unfold kidA; split
  · exact (h.2 r).1
  · exact (h.2 r).2
theorem bd_grw (x : En) : ∀ (d h : Nat) (s : Ar) (r : Nat), Bd s → r ≤ s.A.length → Bd (grw d h s r x).1 ∧ 1 ≤ (grw d h s r x).2 ∧ (grw d h s r x).2 ≤ (grw d h s r x).1.A.length ∧ s.A.length ≤ (grw d h s r x).1.A.length ∧ (grw d h s r x).1.A.length ≤ s.A.length + d + 1 ∧ (grw d h s r x).1.c ≤ s.c + d + 1
  | 0, h, s, r, hb, hr => by
    obtain ⟨t1, t2, t3, t4, t5, t6⟩ := bd_tkr hb hr
    rw [grw0]
    generalize tkr s r = T at *
    obtain ⟨⟨B, f1, c1⟩, r1⟩ := T
    dsimp only at *
    exact ⟨bd_set t1 t2 t3 (t1.2 r1).1 (t1.2 r1).2 t1.1, t2, by simpa using t3, by simpa using t4, by simpa using t5, t6⟩
  | d + 1, h, s, r, hb, hr => by
    obtain ⟨t1, t2, t3, t4, t5, t6⟩ := bd_tkr hb hr
    have hk := kid_le t1 (tkr s r).2 (sid x.k h)
    obtain ⟨g1, g2, g3, g4, g5, g6⟩ := bd_grw x d (h - 1) _ _ t1 hk
    simp only [grw]
    generalize grw d (h - 1) (tkr s r).1 (kidA (gt (tkr s r).1.A (tkr s r).2) (sid x.k h)) x = g at *
    generalize tkr s r = T at *
    obtain ⟨⟨B, f1, c1⟩, r1⟩ := T
    obtain ⟨⟨C, f2, c2⟩, m⟩ := g
    dsimp only at *
    have b1 := (t1.2 r1).1
    have b2 := (t1.2 r1).2
    dsimp only at b1 b2
    refine ⟨bd_set g1 t2 (by omega) ?_ ?_ g1.1, t2, by simp; omega, by simp; omega, by simp; omega, by omega⟩
    · unfold setK; split <;> simp only <;> omega
    · unfold setK; split <;> simp only <;> omega
theorem bd_fin {A : List Nd} {f c r : Nat} {x : Nd} (h : Bd ⟨A, f, c⟩) (h1 : 1 ≤ r) (hl : r ≤ A.length) (ha : x.a ≤ A.length) (hb : x.b ≤ A.length) : Bd (fin ⟨A, f, c⟩ r x).1 ∧ (fin ⟨A, f, c⟩ r x).2 ≤ A.length ∧ (fin ⟨A, f, c⟩ r x).1.A.length = A.length ∧ (fin ⟨A, f, c⟩ r x).1.c ≤ c := by
  unfold fin
  have hf := h.1
  dsimp only at *
  split
  · exact ⟨bd_set h h1 hl (by simpa using hf) (by simp) (by simpa using hl), by simp, by simp, by simp⟩
  · exact ⟨bd_set h h1 hl ha hb hf, by simpa using hl, by simp, Nat.le_refl _⟩
/-- The nodes on the way to the key stand. -/
def way (A : List Nd) : Nat → Nat → Nat → Nat → Prop
  | 0, _, r, _ => r ≠ 0
  | d + 1, h, r, k => r ≠ 0 ∧ way A d (h - 1) (kidA (gt A r) (sid k h)) k
theorem way_fnd (A : List Nd) : ∀ (d h r k : Nat), way A d h r k ↔ fnd A d h r k ≠ 0
  | 0, h, r, k => Iff.rfl
  | d + 1, h, r, k => by
    simp only [way, fnd]
    rw [way_fnd A d]
    by_cases r0 : r = 0
    · simp [r0]
    · simp [r0]
theorem way_pth {A : List Nd} : ∀ {d h r k : Nat} (n : Nat), way A d h r k → (pth A d h r k n).length = d + 1
  | 0, h, r, k, n, w => by simp only [way] at w; simp [pth, w]
  | d + 1, h, r, k, n, w => by
    simp only [way] at w
    simp only [pth]
    rw [if_neg w.1, List.length_cons, way_pth (n + 1) w.2]
theorem bd_shr : ∀ (d h : Nat) (s : Ar) (r k : Nat), Bd s → r ≤ s.A.length → way s.A d h r k → Bd (shr d h s r k).1 ∧ (shr d h s r k).2 ≤ s.A.length ∧ (shr d h s r k).1.A.length = s.A.length ∧ (shr d h s r k).1.c ≤ s.c
  | 0, h, s, r, k, hb, hr, hw => by
    rw [shr0]
    obtain ⟨A, f, c⟩ := s
    simp only [way] at hw
    dsimp only at *
    exact bd_fin hb (by omega) hr (hb.2 r).1 (hb.2 r).2
  | d + 1, h, s, r, k, hb, hr, hw => by
    rw [shr1]
    simp only [way] at hw
    obtain ⟨g1, g2, g3, g4⟩ := bd_shr d (h - 1) s _ k hb (kid_le hb r (sid k h)) hw.2
    generalize shr d (h - 1) s (kidA (gt s.A r) (sid k h)) k = g at *
    obtain ⟨⟨C, f2, c2⟩, m⟩ := g
    obtain ⟨A, f, c⟩ := s
    dsimp only at *
    have b1 := (hb.2 r).1
    have b2 := (hb.2 r).2
    dsimp only at b1 b2
    obtain ⟨q1, q2, q3, q4⟩ := bd_fin (x := setK (gt A r) (sid k h) m) (r := r) g1 (by omega) (by omega) (by unfold setK; split <;> simp only <;> omega) (by unfold setK; split <;> simp only <;> omega)
    exact ⟨q1, by omega, by omega, by omega⟩
/-- A key that may be. -/
def May (W k n : Nat) : Prop := n ≤ W ∧ k < 2 ^ W ∧ k % 2 ^ (W - n) = 0
/-- The trie's numbers are those of the list L. -/
structure Inv (W M : Nat) (A : List Nd) (r f c : Nat) (L : List En) : Prop where
  ok : okT A W r
  fr : ∃ F, Fit A f F W r ∧ F.length + num A W r = A.length
  cn : c = num A W r
  le : c ≤ M
  la : A.length ≤ M
  tl : tel W A W r 0 = L
  bd : Bd ⟨A, f, c⟩
theorem inv_new (W M : Nat) : Inv W M [] 0 0 0 [] := ⟨okT_z _ _, ⟨[], ⟨rfl, fun p => by rw [occ_z]; simp⟩, by rw [num_z]; rfl⟩, by rw [num_z], Nat.zero_le _, by simp, tel_z _ _ _ _, ⟨Nat.le_refl _, fun p => by simp [gt, ndZ]⟩⟩
section
variable {W M : Nat} {A : List Nd} {r f c : Nat} {L : List En}
theorem Inv.srt (i : Inv W M A r f c L) : srt L := by rw [← i.tl]; exact tel_srt (Nat.le_refl _) (by simp)
theorem Inv.may (i : Inv W M A r f c L) {e : En} (h : e ∈ L) : May W e.k e.n := by
  rw [← i.tl] at h
  have := rng (Nat.le_refl _) (by simp) h
  exact ⟨this.2.2.2.1, by omega, this.2.2.2.2⟩
theorem Inv.cnt (i : Inv W M A r f c L) : c = cntL W 0 none L := by
  rw [i.cn, num_cnt (Nat.le_refl W) (key := 0) (by simp) i.ok, i.tl, Nat.sub_self]
theorem Inv.rle (i : Inv W M A r f c L) : r ≤ A.length := okT_le i.ok
theorem Inv.mem (i : Inv W M A r f c L) {k n : Nat} {v : Int} (m : May W k n) : (⟨k, n, v⟩ : En) ∈ L ↔ fnd A n W r k ≠ 0 ∧ (gt A (fnd A n W r k)).h = true ∧ (gt A (fnd A n W r k)).v = v := by
  have := fnd_mem (W := W) (A := A) (d := n) (h := W) (r := r) (k := k) (key := 0) (v := v) m.1 (Nat.le_refl _) (by simp) (by omega) (by have := m.2.1; omega) m.2.2
  rw [Nat.sub_self, Nat.zero_add, i.tl] at this
  exact this
/-- The nodes that a key needs beside those that stand. -/
theorem Inv.grow (i : Inv W M A r f c L) {x : En} (m : May W x.k x.n) :
    (grw x.n W ⟨A, f, c⟩ r x).1.c + (pth A x.n W r x.k 0).length = c + x.n + 1 ∧ (grw x.n W ⟨A, f, c⟩ r x).1.c = cntL W 0 none (putL L x) ∧
      ((grw x.n W ⟨A, f, c⟩ r x).1.c ≤ M → Inv W M (grw x.n W ⟨A, f, c⟩ r x).1.A (grw x.n W ⟨A, f, c⟩ r x).2 (grw x.n W ⟨A, f, c⟩ r x).1.f (grw x.n W ⟨A, f, c⟩ r x).1.c (putL L x)) ∧
      (grw x.n W ⟨A, f, c⟩ r x).1.A.length = max A.length (grw x.n W ⟨A, f, c⟩ r x).1.c := by
  obtain ⟨F, ft, hF⟩ := i.fr
  have hb := bd_grw x x.n W ⟨A, f, c⟩ r i.bd i.rle
  have la := i.la
  obtain ⟨F', g1, g2, g3, g4, g5, g6, g7, g8, g9, g10, g11⟩ := grw_ok (W := W) (x := x) x.n W r f c 0 0 A F m.1 (Nat.le_refl _) (by omega) (by simp) (by omega) (by have := m.2.1; omega) m.2.2 i.ok ft
  have cn := i.cn
  generalize grw x.n W ⟨A, f, c⟩ r x = g at *
  obtain ⟨⟨C, f2, c2⟩, r2⟩ := g
  dsimp only at *
  have hp := put_ok i.srt x
  have ht : tel W C W r2 0 = putL L x := srt_ext (tel_srt (Nat.le_refl _) (by simp)) hp.1 (fun e => by rw [g11 e, hp.2 e, i.tl])
  have hc2 : c2 = num C W r2 := by omega
  have hlen : C.length = max A.length c2 := by
    by_cases q : A.length < C.length
    · have := g7 q
      rw [this] at g9; simp only [List.length_nil] at g9; omega
    · have : F'.length ≤ F'.length := Nat.le_refl _
      omega
  refine ⟨g10, ?_, fun hM => ⟨g2, ⟨F', ⟨g3, fun p => ?_⟩, by omega⟩, hc2, hM, by omega, ht, hb.1⟩, hlen⟩
  · rw [hc2, num_cnt (Nat.le_refl W) (key := 0) (by simp) g2, ht, Nat.sub_self]
  · have a1 := g6 p; have a2 := ft.un p
    have a3 := occ_le i.ok p; have a4 := chn_le ft.ch p
    by_cases hq : A.length < p ∧ p ≤ C.length
    · rw [if_pos hq] at a1; omega
    · rw [if_neg hq] at a1; omega
theorem Inv.way (i : Inv W M A r f c L) {k n : Nat} {v : Int} (m : May W k n) (h : (⟨k, n, v⟩ : En) ∈ L) : way A n W r k := (way_fnd A n W r k).2 ((i.mem m).1 h).1
theorem Inv.cut (i : Inv W M A r f c L) {k n : Nat} {v : Int} (m : May W k n) (h : (⟨k, n, v⟩ : En) ∈ L) :
    Inv W M (shr n W ⟨A, f, c⟩ r k).1.A (shr n W ⟨A, f, c⟩ r k).2 (shr n W ⟨A, f, c⟩ r k).1.f (shr n W ⟨A, f, c⟩ r k).1.c (cutL L k n) ∧ (shr n W ⟨A, f, c⟩ r k).1.A.length = A.length := by
  obtain ⟨F, ft, hF⟩ := i.fr
  have hb := bd_shr n W ⟨A, f, c⟩ r k i.bd i.rle (i.way m h)
  have hi : idx L k n < L.length := by
    rcases Nat.lt_or_ge (idx L k n) L.length with q | q
    · exact q
    · exact absurd ⟨rfl, rfl⟩ (idx_no (show ¬ idx L k n < L.length by omega) _ h)
  obtain ⟨F', g1, g2, g3, g4, g5, g6, g7, g8⟩ := shr_ok (W := W) (k := k) n W r f c 0 A F m.1 (Nat.le_refl _) (by simp) (by omega) (by have := m.2.1; omega) i.ok ft ⟨v, by rw [Nat.sub_self, Nat.zero_add, i.tl]; exact h⟩ (by rw [i.cn]; exact Nat.le_refl _)
  have cn := i.cn
  have le := i.le
  have la := i.la
  generalize shr n W ⟨A, f, c⟩ r k = g at *
  obtain ⟨⟨C, f2, c2⟩, r2⟩ := g
  dsimp only at *
  have hp := cut_ok i.srt k n hi
  have ht : tel W C W r2 0 = cutL L k n := srt_ext (tel_srt (Nat.le_refl _) (by simp)) hp.1 (fun e => by rw [g8 e, hp.2 e, i.tl, Nat.sub_self, Nat.zero_add])
  exact ⟨⟨g1, ⟨F', ⟨g2, fun p => by have := g5 p; have := ft.un p; omega⟩, by omega⟩, by omega, by omega, by omega, ht, hb.1⟩, g3⟩
theorem Inv.get (i : Inv W M A r f c L) {k n : Nat} (m : May W k n) : val L k n = if fnd A n W r k ≠ 0 ∧ (gt A (fnd A n W r k)).h = true then some (gt A (fnd A n W r k)).v else none := by
  split
  · rename_i h
    exact (val_mem i.srt).2 ((i.mem m).2 ⟨h.1, h.2, rfl⟩)
  · rename_i h
    exact (val_none i.srt).2 (fun v hv => h ⟨((i.mem m).1 hv).1, ((i.mem m).1 hv).2.1⟩)
theorem Inv.abv (i : Inv W M A r f c L) {k n : Nat} (m : May W k n) : (pth A n W r k 0).filterMap (pk W A k) = abv W L k n := by
  rw [abv_pth m.1 m.2.1 i.ok, i.tl]
end
end Go.Proofs.Ytfbkjghipahipaa
