/-
  Taking a key out: the tree behind it. No program is named here.
-/
import Derived.Test.YtfbkjghipahipaaTrPlC
namespace Go.Proofs.Ytfbkjghipahipaa
set_option linter.unusedVariables false
set_option linter.unusedSimpArgs false

theorem isZ_iff (d : Nd) : isZ d = true ↔ d.a = 0 ∧ d.b = 0 ∧ d.h = false ∧ d.v = 0 := by
  unfold isZ; simp [and_assoc]
theorem shr0 (h : Nat) (s : Ar) (r k : Nat) : shr 0 h s r k = fin s r { gt s.A r with h := false, v := 0 } := rfl
theorem shr1 (d h : Nat) (s : Ar) (r k : Nat) : shr (d + 1) h s r k = fin (shr d (h - 1) s (kidA (gt s.A r) (sid k h)) k).1 r (setK (gt s.A r) (sid k h) (shr d (h - 1) s (kidA (gt s.A r) (sid k h)) k).2) := rfl
/-- What is left where the root's node is written anew, or given back. -/
theorem fin_ok {W h r f c key : Nat} {A : List Nd} {F : List Nat} (x : Nd) (h1 : 1 ≤ r) (hl : r ≤ A.length) (oa : okT A h x.a) (ob : okT A h x.b) (za : occ A h x.a r = 0) (zb : occ A h x.b r = 0) (hF : F.count r = 0) (hc : chn A f F) (hv : x.h = false → x.v = 0) (h0c : 1 ≤ c) :
    ∃ F', okT (fin ⟨A, f, c⟩ r x).1.A (h + 1) (fin ⟨A, f, c⟩ r x).2 ∧ chn (fin ⟨A, f, c⟩ r x).1.A (fin ⟨A, f, c⟩ r x).1.f F' ∧ (fin ⟨A, f, c⟩ r x).1.A.length = A.length ∧
      (∀ p, 1 ≤ p → p ≠ r → gt (fin ⟨A, f, c⟩ r x).1.A p = gt A p) ∧
      (∀ p, occ (fin ⟨A, f, c⟩ r x).1.A (h + 1) (fin ⟨A, f, c⟩ r x).2 p + F'.count p = (if r = p then 1 else 0) + occ A h x.a p + occ A h x.b p + F.count p) ∧
      F'.length + num (fin ⟨A, f, c⟩ r x).1.A (h + 1) (fin ⟨A, f, c⟩ r x).2 = F.length + 1 + num A h x.a + num A h x.b ∧
      (fin ⟨A, f, c⟩ r x).1.c + 1 + num A h x.a + num A h x.b = c + num (fin ⟨A, f, c⟩ r x).1.A (h + 1) (fin ⟨A, f, c⟩ r x).2 ∧
      (∀ key, tel W (fin ⟨A, f, c⟩ r x).1.A (h + 1) (fin ⟨A, f, c⟩ r x).2 key = ownE x key (W - (h + 1)) ++ (tel W A h x.a key ++ tel W A h x.b (key + 2 ^ h))) := by
  have r0 : r ≠ 0 := by omega
  unfold fin
  by_cases hz : isZ x = true
  · rw [if_pos hz]
    obtain ⟨z1, z2, z3, z4⟩ := (isZ_iff x).1 hz
    dsimp only
    have hlen : (A.set (r - 1) ⟨f, 0, false, 0⟩).length = A.length := by simp
    refine ⟨r :: F, okT_z _ _, ⟨rfl, h1, by rw [hlen]; exact hl, ?_⟩, hlen, fun p hp hne => gt_far h1 hl hp hne, fun p => ?_, ?_, ?_, fun key => ?_⟩
    · rw [gt_same h1 hl]
      exact chn_frm (by rw [hlen]; exact Nat.le_refl _) hc (fun p hp hq => gt_far h1 hl hp (fun e => by rw [e] at hq; omega))
    · rw [occ_z, List.count_cons, z1, z2, occ_z]
      simp only [beq_iff_eq]; omega
    · rw [num_z, z1, z2, num_z]; simp
    · rw [num_z, z1, z2, num_z]; omega
    · rw [tel_z, z1, z2, tel_z, tel_z]; simp [ownE, z3]
  · rw [if_neg hz]
    dsimp only
    obtain ⟨s1, s2, s3, s4, s5, s6, s7⟩ := root_set (F := F) (f := f) x h1 hl oa ob za zb hF hc
    have hlen : (A.set (r - 1) x).length = A.length := by simp
    refine ⟨F, .inr ⟨by rw [hlen]; exact hl, by rw [s1]; exact s5, by rw [s1]; exact s6, ?_, by rw [s1]; exact hv⟩, s7, hlen, fun p hp hne => gt_far h1 hl hp hne, fun p => by rw [s4], by rw [s3]; omega, by rw [s3]; omega, fun key => s2 W key⟩
    rw [s1]
    by_cases q1 : x.h = true
    · exact .inl q1
    · by_cases q2 : x.a = 0
      · by_cases q3 : x.b = 0
        · exfalso; apply hz
          have q4 : x.h = false := by simpa using q1
          exact (isZ_iff x).2 ⟨q2, q3, q4, hv q4⟩
        · exact .inr (.inr q3)
      · exact .inr (.inl q2)
theorem shr_ok {W k : Nat} : ∀ (d h r f c key : Nat) (A : List Nd) (F : List Nat), d ≤ h → h ≤ W → key % 2 ^ h = 0 → key ≤ k → k < key + 2 ^ h → okT A h r → Fit A f F h r → (∃ v, (⟨k, W - h + d, v⟩ : En) ∈ tel W A h r key) → num A h r ≤ c →
    ∃ F', okT (shr d h ⟨A, f, c⟩ r k).1.A h (shr d h ⟨A, f, c⟩ r k).2 ∧ chn (shr d h ⟨A, f, c⟩ r k).1.A (shr d h ⟨A, f, c⟩ r k).1.f F' ∧ (shr d h ⟨A, f, c⟩ r k).1.A.length = A.length ∧
      (∀ p, 1 ≤ p → occ A h r p = 0 → gt (shr d h ⟨A, f, c⟩ r k).1.A p = gt A p) ∧
      (∀ p, occ (shr d h ⟨A, f, c⟩ r k).1.A h (shr d h ⟨A, f, c⟩ r k).2 p + F'.count p = occ A h r p + F.count p) ∧
      F'.length + num (shr d h ⟨A, f, c⟩ r k).1.A h (shr d h ⟨A, f, c⟩ r k).2 = F.length + num A h r ∧
      (shr d h ⟨A, f, c⟩ r k).1.c + num A h r = c + num (shr d h ⟨A, f, c⟩ r k).1.A h (shr d h ⟨A, f, c⟩ r k).2 ∧
      (∀ e, e ∈ tel W (shr d h ⟨A, f, c⟩ r k).1.A h (shr d h ⟨A, f, c⟩ r k).2 key ↔ e ∈ tel W A h r key ∧ ¬ (e.k = k ∧ e.n = W - h + d)) := by
  intro d
  induction d with
  | zero =>
    intro h r f c key A F hd hW hk k1 k2 o ft hin hc
    obtain ⟨v, hin⟩ := hin
    have r0 : r ≠ 0 := fun e => by rw [e, tel_z] at hin; cases hin
    have hr := rng hW hk hin
    have key_eq : k = key := word_eq k1 k2 hk (by have := hr.2.2.2.2; simp only at this; rw [show W - (W - h + 0) = h by omega] at this; exact this)
    have rl := okT_le o
    rw [shr0]
    cases h with
    | zero =>
      simp only [okT] at o
      rcases o with o | ⟨_, o2, o3, o4⟩
      · omega
      · have hz : isZ { gt A r with h := false, v := 0 } = true := (isZ_iff _).2 ⟨o2, o3, rfl, rfl⟩
        have un := ft.un r
        simp only [occ] at un
        rw [if_neg r0] at un
        simp at un
        unfold fin
        rw [if_pos hz]
        dsimp only
        have hlen : (A.set (r - 1) ⟨f, 0, false, 0⟩).length = A.length := by simp
        simp only [num, if_neg r0] at hc
        refine ⟨r :: F, okT_z _ _, ⟨rfl, by omega, by rw [hlen]; exact rl, ?_⟩, hlen, fun p hp hne => gt_far (by omega) rl hp (fun e => by rw [e] at hne; simp [occ, r0] at hne), fun p => ?_, ?_, ?_, fun z => ?_⟩
        · rw [gt_same (by omega) rl]
          exact chn_frm (by rw [hlen]; exact Nat.le_refl _) ft.ch (fun p hp hq => gt_far (by omega) rl hp (fun e => by rw [e] at hq; have := ft.un r; simp only [occ] at this; rw [if_neg r0] at this; simp at this; omega))
        · rw [occ_z, List.count_cons]; simp only [occ, if_neg r0, beq_iff_eq]; omega
        · rw [num_z]; simp only [num, if_neg r0, List.length_cons]
        · rw [num_z]; simp only [num, if_neg r0]; omega
        · rw [tel_z]
          simp only [tel]
          rw [if_neg r0, own_mem, key_eq]
          constructor
          · intro h; cases h
          · rintro ⟨⟨_, h⟩, hh⟩
            exfalso; apply hh; rw [h]; exact ⟨rfl, by simp⟩
    | succ h =>
      have un := ft.un
      simp only [okT] at o
      rcases o with o | ⟨_, o2, o3, o4, o5⟩
      · omega
      · have ur := un r
        simp only [occ] at ur
        rw [if_neg r0] at ur
        simp only [if_true] at ur
        simp only [num] at hc
        rw [if_neg r0] at hc
        obtain ⟨F', p1, p2, p3, p4, p5, p6, p7, p8⟩ := fin_ok (W := W) (key := key) (f := f) (c := c) (F := F) { gt A r with h := false, v := 0 } (show 1 ≤ r by omega) rl o2 o3 (by simp only; omega) (by simp only; omega) (by omega) ft.ch (fun _ => rfl) (by omega)
        refine ⟨F', p1, p2, p3, fun p hp hq => p4 p hp (fun e => by rw [e] at hq; simp only [occ] at hq; rw [if_neg r0] at hq; simp at hq), fun p => ?_, ?_, ?_, fun z => ?_⟩
        · rw [p5]; simp only [occ]; rw [if_neg r0]
        · rw [p6]; simp only [num]; rw [if_neg r0]; omega
        · simp only [num] at p7 ⊢; rw [if_neg r0]; omega
        · rw [p8, key_eq]
          simp only [tel]
          rw [if_neg r0]
          obtain ⟨m1, m2⟩ := mod_half hk
          simp only [List.mem_append, own_mem, Bool.false_eq_true, false_and, false_or]
          constructor
          · intro q
            refine ⟨.inr q, ?_⟩
            rcases q with q | q
            · have := rng (by omega) m1 q; omega
            · have := rng (by omega) m2 q; omega
          · rintro ⟨⟨_, q⟩ | q, hh⟩
            · exfalso; apply hh; rw [q]; exact ⟨rfl, by simp⟩
            · exact q
  | succ d ih =>
    intro h r f c key A F hd hW hk k1 k2 o ft hin hc
    obtain ⟨h, rfl⟩ : ∃ h', h = h' + 1 := ⟨h - 1, by omega⟩
    obtain ⟨v, hin⟩ := hin
    have r0 : r ≠ 0 := fun e => by rw [e, tel_z] at hin; cases hin
    have rl := okT_le o
    obtain ⟨m1, m2⟩ := mod_half hk
    simp only [okT] at o
    rcases o with o | ⟨_, o2, o3, o4, o5⟩
    · omega
    · have un := ft.un
      have un2 : ∀ p, (if r = p then 1 else 0) + occ A h (gt A r).a p + occ A h (gt A r).b p + F.count p ≤ 1 := fun p => by
        have := un p; simp only [occ] at this; rw [if_neg r0] at this; exact this
      have ur := un2 r
      rw [if_pos rfl] at ur
      have hc2 : 1 + num A h (gt A r).a + num A h (gt A r).b ≤ c := by simp only [num] at hc; rw [if_neg r0] at hc; exact hc
      have tt : tel W A (h + 1) r key = ownE (gt A r) key (W - (h + 1)) ++ (tel W A h (gt A r).a key ++ tel W A h (gt A r).b (key + 2 ^ h)) := by simp only [tel]; rw [if_neg r0]
      rw [tt] at hin
      simp only [List.mem_append, own_mem] at hin
      have hown : ∀ z : En, z ∈ ownE (gt A r) key (W - (h + 1)) → ¬ (z.k = k ∧ z.n = W - (h + 1) + (d + 1)) := fun z q => by
        rw [own_mem] at q; rw [q.2]; simp only; omega
      rw [shr1, Nat.add_sub_cancel]
      dsimp only
      rcases half k1 k2 hk with ⟨sd, kk⟩ | ⟨sd, kk⟩
      · rw [sd]
        simp only [kidA, setK, if_true]
        have hi2 : (⟨k, W - h + d, v⟩ : En) ∈ tel W A h (gt A r).a key := by
          rcases hin with ⟨_, q⟩ | q | q
          · have := congrArg En.n q; simp only at this; omega
          · rw [show W - h + d = W - (h + 1) + (d + 1) by omega]; exact q
          · have := rng (by omega) m2 q; simp only at this; omega
        obtain ⟨F2, g1, g2, g3, g4, g5, g6, g7, g8⟩ := ih h (gt A r).a f c key A F (by omega) (by omega) m1 k1 kk o2 ⟨ft.ch, fun p => by have := un2 p; omega⟩ ⟨v, hi2⟩ (by omega)
        generalize shr d h ⟨A, f, c⟩ (gt A r).a k = g at *
        obtain ⟨⟨C, f2, c2⟩, m⟩ := g
        dsimp only at *
        obtain ⟨b1, b2, b3, b4⟩ := frm (A := A) (A' := C) (by omega) (h := h) (r := (gt A r).b) (fun p hp hq => g4 p hp (by have := un2 p; omega))
        have gr := g5 r
        obtain ⟨F', p1, p2, p3, p4, p5, p6, p7, p8⟩ := fin_ok (W := W) (key := key) (f := f2) (c := c2) (F := F2) { gt A r with a := m } (show 1 ≤ r by omega) (by omega) g1 (b4 o3) (by simp only; omega) (by simp only; rw [b3]; omega) (by omega) g2 o5 (by omega)
        refine ⟨F', p1, p2, p3.trans g3, fun p hp hq => ?_, fun p => ?_, ?_, ?_, fun z => ?_⟩
        · simp only [occ] at hq; rw [if_neg r0] at hq
          rw [p4 p hp (fun e => by rw [e] at hq; simp at hq), g4 p hp (by omega)]
        · rw [p5]; simp only [b3, occ]; rw [if_neg r0]; have := g5 p; omega
        · rw [p6]; simp only [b2, num]; rw [if_neg r0]; omega
        · simp only [b2] at p7; simp only [num] at p7 ⊢; rw [if_neg r0]; omega
        · rw [p8, tt]
          simp only [List.mem_append, b1]
          have e : ownE { gt A r with a := m } key (W - (h + 1)) = ownE (gt A r) key (W - (h + 1)) := rfl
          rw [e, g8 z, show W - h + d = W - (h + 1) + (d + 1) by omega]
          have q1 := hown z
          have q2 : z ∈ tel W A h (gt A r).b (key + 2 ^ h) → ¬ (z.k = k ∧ z.n = W - (h + 1) + (d + 1)) := fun q => by
            have := rng (by omega) m2 q; omega
          constructor
          · rintro (a | a | a)
            · exact ⟨.inl a, q1 a⟩
            · exact ⟨.inr (.inl a.1), a.2⟩
            · exact ⟨.inr (.inr a), q2 a⟩
          · rintro ⟨a | a | a, b⟩
            · exact .inl a
            · exact .inr (.inl ⟨a, b⟩)
            · exact .inr (.inr a)
      · rw [sd]
        simp only [kidA, setK, if_neg (show ¬ (1 : Nat) = 0 by decide)]
        have hi2 : (⟨k, W - h + d, v⟩ : En) ∈ tel W A h (gt A r).b (key + 2 ^ h) := by
          rcases hin with ⟨_, q⟩ | q | q
          · have := congrArg En.n q; simp only at this; omega
          · have := rng (by omega) m1 q; simp only at this; omega
          · rw [show W - h + d = W - (h + 1) + (d + 1) by omega]; exact q
        obtain ⟨F2, g1, g2, g3, g4, g5, g6, g7, g8⟩ := ih h (gt A r).b f c (key + 2 ^ h) A F (by omega) (by omega) m2 kk (by rw [Nat.pow_succ] at k2; omega) o3 ⟨ft.ch, fun p => by have := un2 p; omega⟩ ⟨v, hi2⟩ (by omega)
        generalize shr d h ⟨A, f, c⟩ (gt A r).b k = g at *
        obtain ⟨⟨C, f2, c2⟩, m⟩ := g
        dsimp only at *
        obtain ⟨b1, b2, b3, b4⟩ := frm (A := A) (A' := C) (by omega) (h := h) (r := (gt A r).a) (fun p hp hq => g4 p hp (by have := un2 p; omega))
        have gr := g5 r
        obtain ⟨F', p1, p2, p3, p4, p5, p6, p7, p8⟩ := fin_ok (W := W) (key := key) (f := f2) (c := c2) (F := F2) { gt A r with b := m } (show 1 ≤ r by omega) (by omega) (b4 o2) g1 (by simp only; rw [b3]; omega) (by simp only; omega) (by omega) g2 o5 (by omega)
        refine ⟨F', p1, p2, p3.trans g3, fun p hp hq => ?_, fun p => ?_, ?_, ?_, fun z => ?_⟩
        · simp only [occ] at hq; rw [if_neg r0] at hq
          rw [p4 p hp (fun e => by rw [e] at hq; simp at hq), g4 p hp (by omega)]
        · rw [p5]; simp only [b3, occ]; rw [if_neg r0]; have := g5 p; omega
        · rw [p6]; simp only [b2, num]; rw [if_neg r0]; omega
        · simp only [b2] at p7; simp only [num] at p7 ⊢; rw [if_neg r0]; omega
        · rw [p8, tt]
          simp only [List.mem_append, b1]
          have e : ownE { gt A r with b := m } key (W - (h + 1)) = ownE (gt A r) key (W - (h + 1)) := rfl
          rw [e, g8 z, show W - h + d = W - (h + 1) + (d + 1) by omega]
          have q1 := hown z
          have q2 : z ∈ tel W A h (gt A r).a key → ¬ (z.k = k ∧ z.n = W - (h + 1) + (d + 1)) := fun q => by
            have := rng (by omega) m1 q; omega
          constructor
          · rintro (a | a | a)
            · exact ⟨.inl a, q1 a⟩
            · exact ⟨.inr (.inl a), q2 a⟩
            · exact ⟨.inr (.inr a.1), a.2⟩
          · rintro ⟨a | a | a, b⟩
            · exact .inl a
            · exact .inr (.inl a)
            · exact .inr (.inr ⟨a, b⟩)
end Go.Proofs.Ytfbkjghipahipaa
