/-
  Putting a key in: the tree behind it. No program is named here.
-/
import Derived.Test.YtfbkjghipahipaaTrPlB
namespace Go.Proofs.Ytfbkjghipahipaa
set_option linter.unusedVariables false
set_option linter.unusedSimpArgs false

theorem own_mem {d : Nd} {k n : Nat} {e : En} : e ∈ ownE d k n ↔ d.h = true ∧ e = ⟨k, n, d.v⟩ := by
  unfold ownE; split <;> simp [*]
/-- The root's node is written anew. -/
theorem root_set {A : List Nd} {h r f : Nat} {F : List Nat} (x : Nd) (h1 : 1 ≤ r) (hl : r ≤ A.length) (oa : okT A h x.a) (ob : okT A h x.b) (za : occ A h x.a r = 0) (zb : occ A h x.b r = 0) (hF : F.count r = 0) (hc : chn A f F) :
    gt (A.set (r - 1) x) r = x ∧ (∀ W key, tel W (A.set (r - 1) x) (h + 1) r key = ownE x key (W - (h + 1)) ++ (tel W A h x.a key ++ tel W A h x.b (key + 2 ^ h))) ∧
      num (A.set (r - 1) x) (h + 1) r = 1 + num A h x.a + num A h x.b ∧ (∀ p, occ (A.set (r - 1) x) (h + 1) r p = (if r = p then 1 else 0) + occ A h x.a p + occ A h x.b p) ∧
      okT (A.set (r - 1) x) h x.a ∧ okT (A.set (r - 1) x) h x.b ∧ chn (A.set (r - 1) x) f F := by
  have h0 : r ≠ 0 := by omega
  have e : gt (A.set (r - 1) x) r = x := gt_same h1 hl
  obtain ⟨a1, a2, a3, a4⟩ := frm (A := A) (A' := A.set (r - 1) x) (by simp) (h := h) (r := x.a) (fun p hp hq => gt_far h1 hl hp (fun e => by rw [e] at hq; omega))
  obtain ⟨b1, b2, b3, b4⟩ := frm (A := A) (A' := A.set (r - 1) x) (by simp) (h := h) (r := x.b) (fun p hp hq => gt_far h1 hl hp (fun e => by rw [e] at hq; omega))
  refine ⟨e, fun W key => by simp only [tel, e, a1, b1]; rw [if_neg h0], by simp only [num, e, a2, b2]; rw [if_neg h0], fun p => by simp only [occ, e, a3, b3]; rw [if_neg h0], a4 oa, b4 ob, chn_frm (by simp) hc (fun p hp hq => gt_far h1 hl hp (fun e => by rw [e] at hq; omega))⟩
theorem word_eq {k key h : Nat} (h1 : key ≤ k) (h2 : k < key + 2 ^ h) (hk : key % 2 ^ h = 0) (hx : k % 2 ^ h = 0) : k = key := by
  obtain ⟨a, ha⟩ := Nat.dvd_of_mod_eq_zero hk
  obtain ⟨b, hb⟩ := Nat.dvd_of_mod_eq_zero hx
  have hpos : 0 < 2 ^ h := Nat.two_pow_pos h
  have e1 : a ≤ b := by
    rcases Nat.lt_or_ge b a with g | g
    · have := Nat.mul_lt_mul_of_pos_left g hpos; omega
    · exact g
  have e2 : b < a + 1 := by
    rcases Nat.lt_or_ge b (a + 1) with g | g
    · exact g
    · have := Nat.mul_le_mul_left (2 ^ h) g; rw [Nat.mul_add, Nat.mul_one] at this; omega
  rw [ha, hb, show a = b by omega]
theorem grw0 (h : Nat) (s : Ar) (r : Nat) (x : En) : grw 0 h s r x = (⟨(tkr s r).1.A.set ((tkr s r).2 - 1) { gt (tkr s r).1.A (tkr s r).2 with h := true, v := x.v }, (tkr s r).1.f, (tkr s r).1.c⟩, (tkr s r).2) := rfl
theorem grw_ok {W : Nat} {x : En} : ∀ (d h r f c key n0 : Nat) (A : List Nd) (F : List Nat), d ≤ h → h ≤ W → W - h + d = x.n → key % 2 ^ h = 0 → key ≤ x.k → x.k < key + 2 ^ h → x.k % 2 ^ (h - d) = 0 → okT A h r → Fit A f F h r →
    ∃ F', (grw d h ⟨A, f, c⟩ r x).2 ≠ 0 ∧ okT (grw d h ⟨A, f, c⟩ r x).1.A h (grw d h ⟨A, f, c⟩ r x).2 ∧ chn (grw d h ⟨A, f, c⟩ r x).1.A (grw d h ⟨A, f, c⟩ r x).1.f F' ∧ A.length ≤ (grw d h ⟨A, f, c⟩ r x).1.A.length ∧
      (∀ p, 1 ≤ p → p ≤ A.length → occ A h r p = 0 → F.count p = 0 → gt (grw d h ⟨A, f, c⟩ r x).1.A p = gt A p) ∧
      (∀ p, occ (grw d h ⟨A, f, c⟩ r x).1.A h (grw d h ⟨A, f, c⟩ r x).2 p + F'.count p = occ A h r p + F.count p + (if A.length < p ∧ p ≤ (grw d h ⟨A, f, c⟩ r x).1.A.length then 1 else 0)) ∧
      (A.length < (grw d h ⟨A, f, c⟩ r x).1.A.length → F' = []) ∧
      num (grw d h ⟨A, f, c⟩ r x).1.A h (grw d h ⟨A, f, c⟩ r x).2 + (pth A d h r x.k n0).length = num A h r + d + 1 ∧
      F'.length + num (grw d h ⟨A, f, c⟩ r x).1.A h (grw d h ⟨A, f, c⟩ r x).2 + A.length = F.length + num A h r + (grw d h ⟨A, f, c⟩ r x).1.A.length ∧
      (grw d h ⟨A, f, c⟩ r x).1.c + (pth A d h r x.k n0).length = c + d + 1 ∧
      (∀ e, e ∈ tel W (grw d h ⟨A, f, c⟩ r x).1.A h (grw d h ⟨A, f, c⟩ r x).2 key ↔ e = x ∨ (e ∈ tel W A h r key ∧ ¬ (e.k = x.k ∧ e.n = x.n))) := by
  intro d
  induction d with
  | zero =>
    intro h r f c key n0 A F hd hW hn hk k1 k2 hx o ft
    obtain ⟨F', t1, t2, t3, t4, t5, t6, t7, t8, t9, t10, t11, t12⟩ := tkr_ok (c := c) o ft
    have key_eq : x.k = key := word_eq k1 k2 hk (by simpa using hx)
    have ole := fun p => occ_le o p
    have cle := fun p => chn_le ft.ch p
    have un := ft.un
    rw [grw0]
    generalize tkr ⟨A, f, c⟩ r = T at *
    obtain ⟨⟨B, f1, c1⟩, r1⟩ := T
    dsimp only at *
    have un1 : ∀ p, occ B h r1 p + F'.count p ≤ 1 := fun p => by
      have a1 := t5 p; have a2 := un p; have a3 := ole p; have a4 := cle p
      by_cases hp : A.length < p ∧ p ≤ B.length
      · rw [if_pos hp] at a1; omega
      · rw [if_neg hp] at a1; omega
    obtain ⟨r0, rl⟩ := opT_le t1
    have hpl : (pth A 0 h r x.k n0).length = if r = 0 then 0 else 1 := by simp only [pth]; split <;> rfl
    have hfr : ∀ (y : Nd) p, 1 ≤ p → p ≤ A.length → occ A h r p = 0 → F.count p = 0 → gt (B.set (r1 - 1) y) p = gt A p := fun y p h1 h2 h3 h4 => by
      rw [gt_far (by omega) rl h1 (fun e => ?_), t4 p h1 h2 h4]
      have a1 := t5 p
      rw [if_neg (by omega), h3, h4] at a1
      rw [e] at a1
      have : occ B h r1 r1 ≥ 1 := by
        cases h <;> (simp only [occ]; rw [if_neg r0]; simp; try omega)
      omega
    cases h with
    | zero =>
      simp only [opT] at t1
      have e := gt_same (x := { gt B r1 with h := true, v := x.v }) (show 1 ≤ r1 by omega) rl
      have hl : (B.set (r1 - 1) { gt B r1 with h := true, v := x.v }).length = B.length := by simp
      have F1 : F'.count r1 = 0 := by have := un1 r1; simp only [occ] at this; rw [if_neg r0] at this; simp at this; omega
      refine ⟨F', r0, .inr ⟨by rw [hl]; exact rl, by rw [e]; exact t1.2.2.1, by rw [e]; exact t1.2.2.2.1, by rw [e]⟩, chn_frm (by rw [hl]; exact Nat.le_refl _) t2 (fun p hp hq => gt_far (by omega) rl hp (fun e => by rw [e] at hq; omega)), by rw [hl]; exact t3, hfr _, fun p => by rw [hl, ← t5 p]; rfl, by rw [hl]; exact t6, ?_, ?_, by rw [hpl, t9]; split <;> omega, fun z => ?_⟩
      · rw [hpl]; simp only [num] at t7 ⊢; rw [if_neg r0] at t7 ⊢; by_cases q : r = 0 <;> simp only [q, if_true, if_false] at t7 ⊢ <;> omega
      · rw [hl]; simp only [num] at t7 ⊢; rw [if_neg r0] at t7 ⊢; omega
      · rw [← t10 W key]
        simp only [tel]
        rw [if_neg r0, if_neg r0, e, own_mem, own_mem]
        simp only [true_and]
        have xe : x = ⟨key, W, x.v⟩ := by
          cases x; simp only at *; simp; exact ⟨key_eq, by omega⟩
        constructor
        · intro h; left; rw [h, ← xe]
        · rintro (h | ⟨⟨_, h⟩, hh⟩)
          · rw [h, ← xe]
          · exfalso; apply hh; rw [h, xe]; exact ⟨rfl, rfl⟩
    | succ h =>
      simp only [opT] at t1
      have u1 := un1 r1
      simp only [occ] at u1
      rw [if_neg r0] at u1
      simp only [if_true] at u1
      obtain ⟨s1, s2, s3, s4, s5, s6, s7⟩ := root_set (F := F') (f := f1) { gt B r1 with h := true, v := x.v } (by omega) rl t1.2.2.1 t1.2.2.2.1 (by simp only; omega) (by simp only; omega) (by omega) t2
      have hl : (B.set (r1 - 1) { gt B r1 with h := true, v := x.v }).length = B.length := by simp
      refine ⟨F', r0, .inr ⟨by rw [hl]; exact rl, by rw [s1]; exact s5, by rw [s1]; exact s6, by rw [s1]; exact .inl rfl, by rw [s1]; intro h; cases h⟩, s7, by rw [hl]; exact t3, hfr _, fun p => by rw [hl, ← t5 p, s4]; simp only [occ]; rw [if_neg r0], by rw [hl]; exact t6, ?_, ?_, by rw [hpl, t9]; split <;> omega, fun z => ?_⟩
      · rw [hpl, s3]; simp only [num] at t7 ⊢; rw [if_neg r0] at t7; by_cases q : r = 0 <;> simp only [q, if_true, if_false] at t7 ⊢ <;> omega
      · rw [hl, s3]; simp only [num] at t7 ⊢; rw [if_neg r0] at t7; omega
      · have tt := t10 W key
        rw [← tt, s2]
        simp only [tel]
        rw [if_neg r0]
        simp only [List.mem_append, own_mem, true_and]
        obtain ⟨m1, m2⟩ := mod_half hk
        have xe : x = ⟨key, W - (h + 1), x.v⟩ := by
          cases x; simp only at *; simp; exact ⟨key_eq, by omega⟩
        have hlo : z ∈ tel W B h (gt B r1).a key ∨ z ∈ tel W B h (gt B r1).b (key + 2 ^ h) → ¬ (z.k = x.k ∧ z.n = x.n) := by
          rintro (q | q)
          · have := rng (by omega) m1 q; omega
          · have := rng (by omega) m2 q; omega
        constructor
        · rintro (q | q)
          · left; rw [q, ← xe]
          · exact .inr ⟨.inr q, hlo q⟩
        · rintro (q | ⟨⟨_, q⟩ | q, hh⟩)
          · left; rw [q, ← xe]
          · exfalso; apply hh; rw [q, xe]; exact ⟨rfl, rfl⟩
          · exact .inr q
  | succ d ih =>
    intro h r f c key n0 A F hd hW hn hk k1 k2 hx o ft
    obtain ⟨h, rfl⟩ : ∃ h', h = h' + 1 := ⟨h - 1, by omega⟩
    obtain ⟨F', t1, t2, t3, t4, t5, t6, t7, t8, t9, t10, t11, t12⟩ := tkr_ok (c := c) o ft
    have ole := fun p => occ_le o p
    have cle := fun p => chn_le ft.ch p
    have un := ft.un
    obtain ⟨m1, m2⟩ := mod_half hk
    have hpl : (pth A (d + 1) (h + 1) r x.k n0).length + (if r = 0 then 1 else 0) = 1 + (pth (tkr ⟨A, f, c⟩ r).1.A d h (kidA (gt (tkr ⟨A, f, c⟩ r).1.A (tkr ⟨A, f, c⟩ r).2) (sid x.k (h + 1))) x.k (n0 + 1)).length := by
      by_cases h0 : r = 0
      · rw [t12 h0, h0, pth_z, if_pos rfl]
        unfold kidA ndZ
        simp [pth_z]
      · have := t11 (d + 1) x.k n0 (by omega) h0
        rw [← this, if_neg h0]
        simp only [pth, Nat.add_sub_cancel]
        rw [if_neg (opT_le t1).1, List.length_cons]
        omega
    simp only [grw, Nat.add_sub_cancel]
    generalize tkr ⟨A, f, c⟩ r = T at *
    obtain ⟨⟨B, f1, c1⟩, r1⟩ := T
    dsimp only at *
    have un1 : ∀ p, occ B (h + 1) r1 p + F'.count p ≤ 1 := fun p => by
      have a1 := t5 p; have a2 := un p; have a3 := ole p; have a4 := cle p
      by_cases hp : A.length < p ∧ p ≤ B.length
      · rw [if_pos hp] at a1; omega
      · rw [if_neg hp] at a1; omega
    obtain ⟨r0, rl⟩ := opT_le t1
    simp only [opT] at t1
    have un2 : ∀ p, (if r1 = p then 1 else 0) + occ B h (gt B r1).a p + occ B h (gt B r1).b p + F'.count p ≤ 1 := fun p => by
      have := un1 p; simp only [occ] at this; rw [if_neg r0] at this; exact this
    have ur := un2 r1
    rw [if_pos rfl] at ur
    have t5' : ∀ p, (if r1 = p then 1 else 0) + occ B h (gt B r1).a p + occ B h (gt B r1).b p + F'.count p = occ A (h + 1) r p + F.count p + (if A.length < p ∧ p ≤ B.length then 1 else 0) := fun p => by
      have := t5 p; simp only [occ] at this; rw [if_neg r0] at this; simp only [occ]; exact this
    have t7' : 1 + num B h (gt B r1).a + num B h (gt B r1).b = num A (h + 1) r + (if r = 0 then 1 else 0) := by
      have := t7; simp only [num] at this; rw [if_neg r0] at this; simp only [num]; exact this
    have t10' : tel W A (h + 1) r key = ownE (gt B r1) key (W - (h + 1)) ++ (tel W B h (gt B r1).a key ++ tel W B h (gt B r1).b (key + 2 ^ h)) := by
      rw [← t10 W key]; simp only [tel]; rw [if_neg r0]
    have hown : ∀ z : En, z ∈ ownE (gt B r1) key (W - (h + 1)) → ¬ (z.k = x.k ∧ z.n = x.n) := fun z q => by
      rw [own_mem] at q; rw [q.2]; simp only; omega
    clear t5 t7 t10 t11 t12 un1 ole cle
    rcases half k1 k2 hk with ⟨sd, kk⟩ | ⟨sd, kk⟩
    · rw [sd]
      rw [sd] at hpl
      simp only [kidA, setK, if_true] at *
      obtain ⟨F2, g1, g2, g3, g4, g5, g6, g7, g8, g9, g10, g11⟩ := ih h (gt B r1).a f1 c1 key (n0 + 1) B F' (by omega) (by omega) (by omega) m1 k1 kk (by rw [show h - d = h + 1 - (d + 1) by omega]; exact hx) t1.2.2.1 ⟨t2, fun p => by have := un2 p; omega⟩
      generalize grw d h ⟨B, f1, c1⟩ (gt B r1).a x = g at *
      obtain ⟨⟨C, f2, c2⟩, m⟩ := g
      dsimp only at *
      obtain ⟨b1, b2, b3, b4⟩ := frm (A := B) (A' := C) g4 (h := h) (r := (gt B r1).b) (fun p hp hq => g5 p hp (occ_le t1.2.2.2.1 p hq).2 (by have := un2 p; omega) (by have := un2 p; omega))
      have gr := g6 r1
      rw [if_neg (by omega)] at gr
      obtain ⟨s1, s2, s3, s4, s5, s6, s7⟩ := root_set (F := F2) (f := f2) { gt B r1 with a := m } (by omega) (show r1 ≤ C.length by omega) g2 (b4 t1.2.2.2.1) (by simp only; omega) (by simp only; rw [b3]; omega) (by omega) g3
      have hl : (C.set (r1 - 1) { gt B r1 with a := m }).length = C.length := by simp
      refine ⟨F2, r0, .inr ⟨by rw [hl]; omega, by rw [s1]; exact s5, by rw [s1]; exact s6, by rw [s1]; exact .inr (.inl g1), by rw [s1]; exact t1.2.2.2.2⟩, s7, by rw [hl]; omega, fun p h1 h2 h3 h4 => ?_, fun p => ?_, fun q => ?_, ?_, ?_, ?_, fun z => ?_⟩
      · have a1 := t5' p
        rw [h3, h4, if_neg (show ¬ (A.length < p ∧ p ≤ B.length) by omega)] at a1
        rw [gt_far (by omega) (by omega) h1 (fun e => by rw [e] at a1; simp at a1), g5 p h1 (by omega) (by omega) (by omega), t4 p h1 h2 h4]
      · have a1 := t5' p
        have a2 := g6 p
        rw [s4, hl]
        simp only [b3]
        by_cases q1 : A.length < p ∧ p ≤ B.length
        · rw [if_pos q1] at a1; rw [if_neg (by omega)] at a2; rw [if_pos (show A.length < p ∧ p ≤ C.length by omega)]; omega
        · rw [if_neg q1] at a1
          by_cases q2 : B.length < p ∧ p ≤ C.length
          · rw [if_pos q2] at a2; rw [if_pos (show A.length < p ∧ p ≤ C.length by omega)]; omega
          · rw [if_neg q2] at a2; rw [if_neg (show ¬ (A.length < p ∧ p ≤ C.length) by omega)]; omega
      · rw [hl] at q
        by_cases q1 : B.length < C.length
        · exact g7 q1
        · have := t6 (by omega)
          rw [this] at g9
          have hz : num C h m + (pth B d h (gt B r1).a x.k (n0 + 1)).length = num B h (gt B r1).a + d + 1 := g8
          simp only [List.length_nil] at g9
          exact List.eq_nil_of_length_eq_zero (by
            have hle : num B h (gt B r1).a ≤ num C h m := by
              have := pth_le B d h (gt B r1).a x.k (n0 + 1); omega
            omega)
      · rw [s3]; simp only [b2]; omega
      · rw [s3, hl]; simp only [b2]; omega
      · omega
      · rw [s2, t10']
        simp only [List.mem_append, b1]
        have q2 : z ∈ tel W B h (gt B r1).b (key + 2 ^ h) → ¬ (z.k = x.k ∧ z.n = x.n) := fun q => by
          have := rng (by omega) m2 q; omega
        have e : ownE { gt B r1 with a := m } key (W - (h + 1)) = ownE (gt B r1) key (W - (h + 1)) := rfl
        rw [e, g11 z]
        have q1 := hown z
        constructor
        · rintro (a | (a | a) | a)
          · exact .inr ⟨.inl a, q1 a⟩
          · exact .inl a
          · exact .inr ⟨.inr (.inl a.1), a.2⟩
          · exact .inr ⟨.inr (.inr a), q2 a⟩
        · rintro (a | ⟨a | a | a, b⟩)
          · exact .inr (.inl (.inl a))
          · exact .inl a
          · exact .inr (.inl (.inr ⟨a, b⟩))
          · exact .inr (.inr a)
    · rw [sd]
      rw [sd] at hpl
      simp only [kidA, setK, if_neg (show ¬ (1 : Nat) = 0 by decide)] at *
      obtain ⟨F2, g1, g2, g3, g4, g5, g6, g7, g8, g9, g10, g11⟩ := ih h (gt B r1).b f1 c1 (key + 2 ^ h) (n0 + 1) B F' (by omega) (by omega) (by omega) m2 kk (by rw [Nat.pow_succ] at k2; omega) (by rw [show h - d = h + 1 - (d + 1) by omega]; exact hx) t1.2.2.2.1 ⟨t2, fun p => by have := un2 p; omega⟩
      generalize grw d h ⟨B, f1, c1⟩ (gt B r1).b x = g at *
      obtain ⟨⟨C, f2, c2⟩, m⟩ := g
      dsimp only at *
      obtain ⟨b1, b2, b3, b4⟩ := frm (A := B) (A' := C) g4 (h := h) (r := (gt B r1).a) (fun p hp hq => g5 p hp (occ_le t1.2.2.1 p hq).2 (by have := un2 p; omega) (by have := un2 p; omega))
      have gr := g6 r1
      rw [if_neg (by omega)] at gr
      obtain ⟨s1, s2, s3, s4, s5, s6, s7⟩ := root_set (F := F2) (f := f2) { gt B r1 with b := m } (by omega) (show r1 ≤ C.length by omega) (b4 t1.2.2.1) g2 (by simp only; rw [b3]; omega) (by simp only; omega) (by omega) g3
      have hl : (C.set (r1 - 1) { gt B r1 with b := m }).length = C.length := by simp
      refine ⟨F2, r0, .inr ⟨by rw [hl]; omega, by rw [s1]; exact s5, by rw [s1]; exact s6, by rw [s1]; exact .inr (.inr g1), by rw [s1]; exact t1.2.2.2.2⟩, s7, by rw [hl]; omega, fun p h1 h2 h3 h4 => ?_, fun p => ?_, fun q => ?_, ?_, ?_, ?_, fun z => ?_⟩
      · have a1 := t5' p
        rw [h3, h4, if_neg (show ¬ (A.length < p ∧ p ≤ B.length) by omega)] at a1
        rw [gt_far (by omega) (by omega) h1 (fun e => by rw [e] at a1; simp at a1), g5 p h1 (by omega) (by omega) (by omega), t4 p h1 h2 h4]
      · have a1 := t5' p
        have a2 := g6 p
        rw [s4, hl]
        simp only [b3]
        by_cases q1 : A.length < p ∧ p ≤ B.length
        · rw [if_pos q1] at a1; rw [if_neg (by omega)] at a2; rw [if_pos (show A.length < p ∧ p ≤ C.length by omega)]; omega
        · rw [if_neg q1] at a1
          by_cases q2 : B.length < p ∧ p ≤ C.length
          · rw [if_pos q2] at a2; rw [if_pos (show A.length < p ∧ p ≤ C.length by omega)]; omega
          · rw [if_neg q2] at a2; rw [if_neg (show ¬ (A.length < p ∧ p ≤ C.length) by omega)]; omega
      · rw [hl] at q
        by_cases q1 : B.length < C.length
        · exact g7 q1
        · have := t6 (by omega)
          rw [this] at g9
          simp only [List.length_nil] at g9
          exact List.eq_nil_of_length_eq_zero (by
            have hle : num B h (gt B r1).b ≤ num C h m := by
              have := pth_le B d h (gt B r1).b x.k (n0 + 1); omega
            omega)
      · rw [s3]; simp only [b2]; omega
      · rw [s3, hl]; simp only [b2]; omega
      · omega
      · rw [s2, t10']
        simp only [List.mem_append, b1]
        have q2 : z ∈ tel W B h (gt B r1).a key → ¬ (z.k = x.k ∧ z.n = x.n) := fun q => by
          have := rng (by omega) m1 q; omega
        have e : ownE { gt B r1 with b := m } key (W - (h + 1)) = ownE (gt B r1) key (W - (h + 1)) := rfl
        rw [e, g11 z]
        have q1 := hown z
        constructor
        · rintro (a | a | a | a)
          · exact .inr ⟨.inl a, q1 a⟩
          · exact .inr ⟨.inr (.inl a), q2 a⟩
          · exact .inl a
          · exact .inr ⟨.inr (.inr a.1), a.2⟩
        · rintro (a | ⟨a | a | a, b⟩)
          · exact .inr (.inr (.inl a))
          · exact .inl a
          · exact .inr (.inl a)
          · exact .inr (.inr (.inr ⟨a, b⟩))
end Go.Proofs.Ytfbkjghipahipaa
