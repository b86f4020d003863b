/-
  Merging two rising rows, as plain mathematics. No program is named here.
-/
import Derived.Test.YtlfdlifmcabfjaaCvSa
namespace Go.Proofs.Ytlfdlifmcabfjaa
open Go.Sort
set_option linter.unusedVariables false
set_option linter.unusedSimpArgs false

/-- The places at the left are lesser numbers than those at the right. -/
def Pl (d : Array Int) (a m b : Nat) : Prop := ∀ i j, a ≤ i → i < m → m ≤ j → j < b → d[i]! < d[j]!
section
variable {key : Int → Int} {d e : Array Int} {a m b i : Nat}
theorem mrg_one (hm : m = a + 1) (hs : So key d m b) (hp : Pl d a m b) (hb : b ≤ d.size) (h1 : m ≤ i) (h2 : i ≤ b) (hl : ∀ t, m ≤ t → t < i → Bf key d[t]! d[a]!) (hr : ∀ t, i ≤ t → t < b → ¬ Bf key d[t]! d[a]!) (hv : Via (upF a (i - 1)) d e) : So key e a b := by
  intro s t s1 st tb
  have hg : ∀ t, i ≤ t → t < b → Bf key d[a]! d[t]! := fun t t1 t2 => bf_tot (hr t t1 t2) (by have := hp a t (by omega) (by omega) (by omega) t2; omega)
  rw [hv.2 s (by omega), hv.2 t (by omega)]
  unfold upF
  by_cases q1 : a ≤ s ∧ s < i - 1
  · rw [if_pos q1]
    by_cases q2 : a ≤ t ∧ t < i - 1
    · rw [if_pos q2]; exact hs _ _ (by omega) (by omega) (by omega)
    · rw [if_neg q2]
      by_cases q3 : t = i - 1
      · rw [if_pos q3]; exact hl _ (by omega) (by omega)
      · rw [if_neg q3]; exact hs _ _ (by omega) (by omega) (by omega)
  · rw [if_neg q1, if_neg (show ¬ (a ≤ t ∧ t < i - 1) by omega), if_neg (show ¬ t = i - 1 by omega)]
    by_cases q3 : s = i - 1
    · rw [if_pos q3]; exact hg _ (by omega) tb
    · rw [if_neg q3]; exact hs _ _ (by omega) st tb
theorem mrg_last (hm : b = m + 1) (hs : So key d a m) (hp : Pl d a m b) (hb : b ≤ d.size) (h1 : a ≤ i) (h2 : i ≤ m) (hl : ∀ t, a ≤ t → t < i → ¬ Bf key d[m]! d[t]!) (hr : ∀ t, i ≤ t → t < m → Bf key d[m]! d[t]!) (hv : Via (dnF m i) d e) : So key e a b := by
  intro s t s1 st tb
  have hg : ∀ t, a ≤ t → t < i → Bf key d[t]! d[m]! := fun t t1 t2 => bf_tot (hl t t1 t2) (by have := hp t m t1 (by omega) (by omega) (by omega); omega)
  rw [hv.2 s (by omega), hv.2 t (by omega)]
  unfold dnF
  by_cases q1 : i < s ∧ s ≤ m
  · rw [if_pos q1, if_pos (show i < t ∧ t ≤ m by omega)]; exact hs _ _ (by omega) (by omega) (by omega)
  · rw [if_neg q1]
    by_cases q2 : s = i
    · rw [if_pos q2, if_pos (show i < t ∧ t ≤ m by omega)]; exact hr _ (by omega) (by omega)
    · rw [if_neg q2]
      by_cases q3 : i < t ∧ t ≤ m
      · rw [if_pos q3]; exact hs _ _ s1 (by omega) (by omega)
      · rw [if_neg q3]
        by_cases q4 : t = i
        · rw [if_pos q4]; exact hg _ s1 (by omega)
        · rw [if_neg q4]; exact hs _ _ s1 st (by omega)
end
/-- What a rotation at the right places makes. -/
structure Spl (key : Int → Int) (e : Array Int) (a st mid en b : Nat) : Prop where
  s1 : So key e a st
  s2 : So key e st mid
  p1 : Pl e a st mid
  s3 : So key e mid en
  s4 : So key e en b
  p2 : Pl e mid en b
  cr : ∀ s t, a ≤ s → s < mid → mid ≤ t → t < b → Bf key e[s]! e[t]!
theorem mrg_split {key : Int → Int} {d e : Array Int} {a m b st en mid : Nat} (h1 : So key d a m) (h2 : So key d m b) (hp : Pl d a m b) (hb : b ≤ d.size) (ha : a ≤ st) (hs : st ≤ m) (hm : m ≤ en) (he : en ≤ b) (hmid : mid = st + (en - m))
    (hA : ∀ x y, a ≤ x → x < st → en ≤ y → y < b → Bf key d[x]! d[y]!) (hB : ∀ x y, st ≤ x → x < m → m ≤ y → y < en → Bf key d[y]! d[x]!) (hv : Via (rtF st m en) d e) : Spl key e a st mid en b := by
  have e1 : ∀ k, a ≤ k → k < st → e[k]! = d[k]! := fun k k1 k2 => by rw [hv.2 k (by omega)]; congr 1; unfold rtF; rw [if_pos k2]
  have e2 : ∀ k, st ≤ k → k < mid → e[k]! = d[k - st + m]! := fun k k1 k2 => by rw [hv.2 k (by omega)]; congr 1; unfold rtF; rw [if_neg (by omega), if_pos (by omega)]
  have e3 : ∀ k, mid ≤ k → k < en → e[k]! = d[k - (en - m)]! := fun k k1 k2 => by rw [hv.2 k (by omega)]; congr 1; unfold rtF; rw [if_neg (by omega), if_neg (by omega), if_pos (by omega)]
  have e4 : ∀ k, en ≤ k → k < b → e[k]! = d[k]! := fun k k1 k2 => by rw [hv.2 k (by omega)]; congr 1; unfold rtF; rw [if_neg (by omega), if_neg (by omega), if_neg (by omega)]
  refine ⟨fun i j i1 ij jb => ?_, fun i j i1 ij jb => ?_, fun i j i1 i2 j1 j2 => ?_, fun i j i1 ij jb => ?_, fun i j i1 ij jb => ?_, fun i j i1 i2 j1 j2 => ?_, fun s t t1 t2 t3 t4 => ?_⟩
  · rw [e1 i i1 (by omega), e1 j (by omega) jb]; exact h1 _ _ i1 ij (by omega)
  · rw [e2 i i1 (by omega), e2 j (by omega) jb]; exact h2 _ _ (by omega) (by omega) (by omega)
  · rw [e1 i i1 i2, e2 j j1 j2]; exact hp _ _ i1 (by omega) (by omega) (by omega)
  · rw [e3 i i1 (by omega), e3 j (by omega) jb]; exact h1 _ _ (by omega) (by omega) (by omega)
  · rw [e4 i i1 (by omega), e4 j (by omega) jb]; exact h2 _ _ (by omega) ij jb
  · rw [e3 i i1 i2, e4 j j1 j2]; exact hp _ _ (by omega) (by omega) (by omega) j2
  · by_cases q1 : s < st
    · rw [e1 s t1 q1]
      by_cases q2 : t < en
      · rw [e3 t t3 q2]; exact h1 _ _ t1 (by omega) (by omega)
      · rw [e4 t (by omega) t4]; exact hA _ _ t1 q1 (by omega) t4
    · rw [e2 s (by omega) t2]
      by_cases q2 : t < en
      · rw [e3 t t3 q2]; exact hB _ _ (by omega) (by omega) (by omega) (by omega)
      · rw [e4 t (by omega) t4]; exact h2 _ _ (by omega) (by omega) t4
theorem split_facts {key : Int → Int} {d : Array Int} {a m b mid lo hi s : Nat} (h1 : So key d a m) (h2 : So key d m b) (hp : Pl d a m b) (ham : a + 1 < m) (hmb : m + 1 < b) (hmid : mid = (a + b) / 2) (hc : (mid < m ∧ lo = mid + m - b ∧ hi = mid) ∨ (m ≤ mid ∧ lo = a ∧ hi = m)) (hs1 : lo ≤ s) (hs2 : s ≤ hi)
    (hT : ∀ t, lo ≤ t → t < s → ¬ Bf key d[mid + m - 1 - t]! d[t]!) (hF : ∀ t, s ≤ t → t < hi → Bf key d[mid + m - 1 - t]! d[t]!) :
    (∀ x y, a ≤ x → x < s → mid + m - s ≤ y → y < b → Bf key d[x]! d[y]!) ∧ (∀ x y, s ≤ x → x < m → m ≤ y → y < mid + m - s → Bf key d[y]! d[x]!) ∧ a ≤ s ∧ s ≤ m ∧ m ≤ mid + m - s ∧ mid + m - s ≤ b ∧ mid = s + (mid + m - s - m) ∧ a ≤ mid ∧ s ≤ mid ∧ mid ≤ mid + m - s := by
  refine ⟨fun x y x1 x2 y1 y2 => ?_, fun x y x1 x2 y1 y2 => ?_, by omega, by omega, by omega, by omega, by omega, by omega, by omega, by omega⟩
  · by_cases q : lo < s
    · have t1 := hT (s - 1) (by omega) (by omega)
      rw [show mid + m - 1 - (s - 1) = mid + m - s by omega] at t1
      have t2 := bf_tot t1 (by have := hp (s - 1) (mid + m - s) (by omega) (by omega) (by omega) (by omega); omega)
      have t3 : Bf key d[x]! d[mid + m - s]! := by
        by_cases e : x = s - 1
        · rw [e]; exact t2
        · exact bf_trans (h1 x (s - 1) x1 (by omega) (by omega)) t2
      by_cases e : y = mid + m - s
      · rw [e]; exact t3
      · exact bf_trans t3 (h2 (mid + m - s) y (by omega) (by omega) y2)
    · omega
  · by_cases q : s < hi
    · have t1 := hF s (Nat.le_refl _) q
      have t3 : Bf key d[y]! d[s]! := by
        by_cases e : y = mid + m - 1 - s
        · rw [e]; exact t1
        · exact bf_trans (h2 y (mid + m - 1 - s) y1 (by omega) (by omega)) t1
      by_cases e : x = s
      · rw [e]; exact t3
      · exact bf_trans t3 (h1 s x (by omega) (by omega) x2)
    · omega
theorem rt_id {s m en : Nat} (d : Array Int) (h1 : s ≤ m) (h2 : m ≤ en) (h : ¬ (s < m ∧ m < en)) : Via (rtF s m en) d d := ⟨rfl, fun k _ => by
  congr 1
  unfold rtF
  by_cases q1 : k < s
  · rw [if_pos q1]
  · rw [if_neg q1]
    by_cases q2 : k < s + (en - m)
    · rw [if_pos q2]; omega
    · rw [if_neg q2]
      by_cases q3 : k < en
      · rw [if_pos q3]; omega
      · rw [if_neg q3]⟩
theorem so_join {key : Int → Int} {e f g : Array Int} {a mid b : Nat} (h1 : Sm a mid e f) (s1 : So key f a mid) (h2 : Sm mid b f g) (s2 : So key g mid b) (cr : ∀ s t, a ≤ s → s < mid → mid ≤ t → t < b → Bf key e[s]! e[t]!) (hm : a ≤ mid) (hb : mid ≤ b) : So key g a b := by
  intro i j i1 ij jb
  by_cases q1 : j < mid
  · rw [h2.2.1 i (.inl (by omega)), h2.2.1 j (.inl q1)]; exact s1 i j i1 ij q1
  · by_cases q2 : mid ≤ i
    · exact s2 i j q2 ij jb
    · rw [h2.2.1 i (.inl (by omega))]
      obtain ⟨i', x1, x2, x3⟩ := h1.2.2.1 i i1 (by omega)
      obtain ⟨j', y1, y2, y3⟩ := h2.2.2.1 j (by omega) jb
      rw [x3, y3, h1.2.1 j' (.inr y1)]
      exact cr _ _ x1 x2 y1 y2
theorem so_one {key : Int → Int} {e : Array Int} {a b : Nat} (h : b ≤ a + 1) : So key e a b := fun i j i1 ij jb => by omega
/-- A row to which nothing is joined. -/
theorem so_cat {key : Int → Int} {e : Array Int} {a m b : Nat} (h : m ≤ a ∨ b ≤ m) (h1 : So key e a m) (h2 : So key e m b) (hm : a ≤ m) (hb : m ≤ b) : So key e a b := by
  rcases h with h | h
  · obtain rfl : m = a := by omega
    exact h2
  · obtain rfl : m = b := by omega
    exact h1
theorem so_sm {key : Int → Int} {a b a' b' : Nat} {d e : Array Int} (h : Sm a b d e) (s : So key d a' b') (hd : b' ≤ a ∨ b ≤ a') : So key e a' b' := fun i j i1 ij jb => by
  rw [h.2.1 i (by omega), h.2.1 j (by omega)]; exact s i j i1 ij jb
theorem pl_sm {a b a' m' b' : Nat} {d e : Array Int} (h : Sm a b d e) (s : Pl d a' m' b') (hd : b' ≤ a ∨ b ≤ a') : Pl e a' m' b' := fun i j i1 i2 j1 j2 => by
  rw [h.2.1 i (by omega), h.2.1 j (by omega)]; exact s i j i1 i2 j1 j2
end Go.Proofs.Ytlfdlifmcabfjaa
