/-
  The library's stable sort.
-/
import Derived.Test.YtlfdlifmcabfjaaCvSf
namespace Go.Proofs.Ytlfdlifmcabfjaa
open Go.RowKit Go.Sort
set_option linter.unusedVariables false
set_option linter.unusedSimpArgs false

/-- A block: rising, and its numbers are those of its places. -/
def Gd (ks : Int → Int) (d : Array Int) (s e : Nat) : Prop := So ks d s e ∧ ∀ i, s ≤ i → i < e → (s : Int) ≤ d[i]! ∧ d[i]! < (e : Int)
section
variable {ks : Int → Int} {d e : Array Int} {a b s t m : Nat}
theorem gd_sm (h : Gd ks d s t) (hs : Sm a b d e) (hd : t ≤ a ∨ b ≤ s) : Gd ks e s t := ⟨so_sm hs h.1 hd, fun i i1 i2 => by rw [hs.2.1 i (by omega)]; exact h.2 i i1 i2⟩
theorem gd_new (hs : Sm a b d e) (ho : So ks e a b) (hr : ∀ i, a ≤ i → i < b → (a : Int) ≤ d[i]! ∧ d[i]! < (b : Int)) : Gd ks e a b := ⟨ho, fun i i1 i2 => by
  obtain ⟨j, j1, j2, j3⟩ := hs.2.2.1 i i1 i2
  rw [j3]; exact hr j j1 j2⟩
theorem gd_pl (h1 : Gd ks d a m) (h2 : Gd ks d m b) : Pl d a m b := fun i j i1 i2 j1 j2 => by have := (h1.2 i i1 i2).2; have := (h2.2 j j1 j2).1; omega
theorem gd_rng (h1 : Gd ks d a m) (h2 : Gd ks d m b) (ha : a ≤ m) (hb : m ≤ b) : ∀ i, a ≤ i → i < b → (a : Int) ≤ d[i]! ∧ d[i]! < (b : Int) := fun i i1 i2 => by
  by_cases q : i < m
  · have := h1.2 i i1 q; omega
  · have := h2.2 i (by omega) i2; omega
end
theorem mul_two (c B : Nat) : c * (2 * B) = 2 * c * B := by rw [Nat.mul_comm 2 B, ← Nat.mul_assoc, Nat.mul_comm (c * B) 2, Nat.mul_assoc]
theorem mul_eq {c k B : Nat} (h1 : c * B ≤ k * B) (h2 : k * B < c * B + B) : k = c := by
  rw [← Nat.succ_mul] at h2
  have h3 := Nat.lt_of_mul_lt_mul_right h2
  rcases Nat.lt_or_ge k c with h | h
  · have : (k + 1) * B ≤ c * B := Nat.mul_le_mul_right _ h
    rw [Nat.succ_mul] at this
    have hB : 0 < B := by
      rcases Nat.eq_zero_or_pos B with e | e
      · rw [e] at h2; simp at h2
      · exact e
    omega
  · omega
/-- All blocks of the size B. -/
def Lv (ks : Int → Int) (sz B : Nat) (d : Array Int) : Prop := ∀ c, c * B < sz → Gd ks d (c * B) (min (c * B + B) sz)
/-- Behind the place A blocks of the size B, ahead of it of twice that. -/
def Mv (ks : Int → Int) (sz B A : Nat) (d : Array Int) : Prop := (∀ c, c * (2 * B) < A → Gd ks d (c * (2 * B)) (c * (2 * B) + 2 * B)) ∧ ∀ c, A ≤ c * B → c * B < sz → Gd ks d (c * B) (min (c * B + B) sz)
theorem lv_mv {ks : Int → Int} {sz B : Nat} {d : Array Int} (h : Lv ks sz B d) : Mv ks sz B 0 d := ⟨fun c hc => by omega, fun c _ hc => h c hc⟩
theorem mv_step {ks : Int → Int} {sz B c : Nat} {d e : Array Int} (h : Mv ks sz B (c * (2 * B)) d) (hB : 0 < B) (hs : Sm (c * (2 * B)) (c * (2 * B) + 2 * B) d e) (hg : Gd ks e (c * (2 * B)) (c * (2 * B) + 2 * B)) : Mv ks sz B ((c + 1) * (2 * B)) e := by
  have e1 : (c + 1) * (2 * B) = c * (2 * B) + 2 * B := Nat.succ_mul _ _
  rw [e1]
  refine ⟨fun k hk => ?_, fun k hk hz => gd_sm (h.2 k (by omega) hz) hs (.inr (by omega))⟩
  by_cases q : k * (2 * B) < c * (2 * B)
  · refine gd_sm (h.1 k q) hs (.inl ?_)
    have : k < c := Nat.lt_of_mul_lt_mul_right q
    have : (k + 1) * (2 * B) ≤ c * (2 * B) := Nat.mul_le_mul_right _ this
    rw [Nat.succ_mul] at this; exact this
  · rw [mul_eq (c := c) (k := k) (B := 2 * B) (by omega) (by omega)]; exact hg
theorem mv_end {ks : Int → Int} {sz B c : Nat} {d e : Array Int} (h : Mv ks sz B (c * (2 * B)) d) (hA : c * (2 * B) ≤ sz) (hz : sz < c * (2 * B) + 2 * B) (hs : Sm (c * (2 * B)) sz d e) (hg : c * (2 * B) < sz → Gd ks e (c * (2 * B)) sz) : Lv ks sz (2 * B) e := fun k hk => by
  by_cases q : k * (2 * B) < c * (2 * B)
  · have q2 : k < c := Nat.lt_of_mul_lt_mul_right q
    have q3 : (k + 1) * (2 * B) ≤ c * (2 * B) := Nat.mul_le_mul_right _ q2
    rw [Nat.succ_mul] at q3
    rw [Nat.min_eq_left (by omega)]
    exact gd_sm (h.1 k q) hs (.inl q3)
  · have := mul_eq (c := c) (k := k) (B := 2 * B) (by omega) (by omega)
    subst this
    rw [Nat.min_eq_right (by omega)]
    exact hg hk
theorem mv_one {ks : Int → Int} {sz B c A : Nat} {d : Array Int} (h : Mv ks sz B A d) (hA : A = c * (2 * B)) (hz : A < sz) : Gd ks d A (min (A + B) sz) := by
  have e : A = 2 * c * B := by rw [hA, mul_two]
  have := h.2 (2 * c) (by omega) (by omega)
  rw [← e] at this; exact this
theorem mv_two {ks : Int → Int} {sz B c A : Nat} {d : Array Int} (h : Mv ks sz B A d) (hA : A = c * (2 * B)) (hz : A + B < sz) : Gd ks d (A + B) (min (A + B + B) sz) := by
  have e : A + B = (2 * c + 1) * B := by rw [hA, mul_two, Nat.add_mul, Nat.one_mul]
  have := h.2 (2 * c + 1) (by omega) (by omega)
  rw [← e] at this; exact this
/-- What the first loop leaves. -/
def Fv (ks : Int → Int) (sz A : Nat) (d : Array Int) : Prop := (∀ c, c * 20 < A → Gd ks d (c * 20) (c * 20 + 20)) ∧ ∀ k, A ≤ k → k < sz → d[k]! = (k : Int)
theorem fv_lv {ks : Int → Int} {sz c : Nat} {d e : Array Int} (h : Fv ks sz (c * 20) d) (hz : sz < c * 20 + 20) (hA : c * 20 ≤ sz) (hs : Sm (c * 20) sz d e) (ho : So ks e (c * 20) sz) : Lv ks sz 20 e := fun k hk => by
  by_cases q : k < c
  · rw [Nat.min_eq_left (by omega)]
    exact gd_sm (h.1 k (by omega)) hs (.inl (by omega))
  · obtain rfl : k = c := by omega
    rw [Nat.min_eq_right (by omega)]
    exact gd_new hs ho (fun i i1 i2 => by rw [h.2 i i1 i2]; omega)
theorem fv_step {ks : Int → Int} {sz c : Nat} {d e : Array Int} (h : Fv ks sz (c * 20) d) (hz : c * 20 + 20 ≤ sz) (hs : Sm (c * 20) (c * 20 + 20) d e) (ho : So ks e (c * 20) (c * 20 + 20)) : Fv ks sz ((c + 1) * 20) e := by
  refine ⟨fun k hk => ?_, fun k k1 k2 => by rw [hs.2.1 k (.inr (by omega))]; exact h.2 k (by omega) k2⟩
  by_cases q : k < c
  · exact gd_sm (h.1 k (by omega)) hs (.inl (by omega))
  · obtain rfl : k = c := by omega
    exact gd_new hs ho (fun i i1 i2 => by rw [h.2 i i1 (by omega)]; omega)
set_option maxRecDepth 20000 in
set_option maxHeartbeats 8000000 in
theorem stableC (blk off cap AB AL : Nat) (ks : Int → Int) (d : Array Int) (w : World) (hH : Holds eI w blk off d) (hA : Al w AB AL d.size ks) (n1 : AB ≠ blk) (n2 : AL ≠ blk) (hsz : d.size ≤ 100000) (hid : ∀ k, k < d.size → d[k]! = (k : Int)) :
    Calls Try.prog 44 #[.slice (some ⟨blk, off, none⟩) d.size cap, .int .i64 (d.size : Int), .func (.func 37) #[] #[.pointer (some ⟨AB, 0, none⟩)]] w fun e w' => e = .returned (.tuple #[]) ∧ ∃ q d', w' = putRow eI (Sort.ahead w q) blk off d' ∧ Sm 0 d.size d d' ∧ So ks d' 0 d.size := by
  obtain ⟨sz, hsz2⟩ : ∃ sz, sz = d.size := ⟨_, rfl⟩
  rw [← hsz2] at hsz hA hid ⊢
  have HZ : Hid (sz = d.size) := hsz2
  have HA : Hid (Al w AB AL sz ks) := hA
  have HOK : Hid (OkD sz d) := fun k hk => by rw [← hsz2] at hk; rw [hid k hk]; omega
  have HF0 : Hid (Fv ks sz (0 * 20) d) := ⟨fun c hc => by omega, fun k _ hk => hid k hk⟩
  clear hsz2 hA hid
  go_enter Try.func44, Try.ntmps44
  go_wp2
  go_loopw [7, 8] (fun va vb wr => ∃ (c q : Nat) (dk : Array Int), va = .int .i64 ((c * 20 : Nat) : Int) ∧ vb = .int .i64 ((c * 20 + 20 : Nat) : Int) ∧ c * 20 ≤ sz ∧ wr = putRow eI (Sort.ahead w q) blk off dk ∧ Hid (Fv ks sz (c * 20) dk) ∧ Hid (Sm 0 sz d dk)) (fun va _ _ => sz - (intOf va).toNat)
  case atStart => exact ⟨0, 0, d, rfl, rfl, by omega, (putRow_self _ _ _ _ _ hH).symm, HF0.out, sm_refl 0 sz d⟩
  case round =>
    obtain ⟨c, q, dk, rfl, rfl, hcz, hw2, hF, hS⟩ := hrel
    have hsk : dk.size = sz := by rw [HZ.out]; exact hS.out.1
    have hHr := holds_pr hH hw2 (by rw [hsk]; exact HZ.out)
    have hAr := al_pr HA.out n1 n2 hw2
    have hokr := okD_sm HOK.out hS.out (by rw [HZ.out]; exact Nat.le_refl _)
    have HW : Hid (wr = putRow eI (Sort.ahead w q) blk off dk) := hw2
    clear hw2
    by_cases hlt : c * 20 + 20 ≤ sz
    · have I := insertC blk off cap (c * 20) (c * 20 + 20) AB AL sz ks dk wr hHr hAr n1 n2 (by omega) hokr (by omega) (by omega) (by omega) (fun i j i1 ij jb => by rw [hF.out.2 i i1 (by omega), hF.out.2 j (by omega) (by omega)]; omega)
      rw [hsk] at I
      have hli : ((c * 20 + 20 : Nat) : Int) ≤ (sz : Int) := by omega
      have e1 : ((c * 20 + 20 : Nat) : Int) + 20 = (((c + 1) * 20 + 20 : Nat) : Int) := by omega
      have e2 : ((c * 20 + 20 : Nat) : Int) = (((c + 1) * 20 : Nat) : Int) := by omega
      generalize hX : ((c * 20 + 20 : Nat) : Int) = X at *
      have HX : Hid (X = (((c + 1) * 20 : Nat) : Int)) := e2
      have hX1 : X ≤ 100000 := by omega
      have hX0 : 0 ≤ X := by omega
      clear hHr hAr hokr e2 hX
      generalize hY : (((c + 1) * 20 + 20 : Nat) : Int) = Y at *
      have HY : Hid (Y = (((c + 1) * 20 + 20 : Nat) : Int)) := hY.symm
      clear hY
      go_wp2_with (fail)
      refine I.mono ?_
      rintro e w' ⟨rfl, q', d', hw', hs', ho'⟩
      have HE : Hid (w' = putRow eI (Sort.ahead w (q + q')) blk off d' ∧ Fv ks sz ((c + 1) * 20) d' ∧ Sm 0 sz d d') := ⟨by rw [hw', pr_pr HW.out hs'.1], fv_step hF.out hlt hs' ho', sm_trans hS.out (sm_mono hs' (Nat.zero_le _) hlt)⟩
      clear I hw' hs' ho'
      go_wp2_with (fail)
      go_roundw
      case rel => exact ⟨c + 1, q + q', d', by rw [HX.out], by rw [HY.out], by omega, HE.out.1, HE.out.2.1, HE.out.2.2⟩
      case measure =>
        have := HX.out
        simp [intOf]; omega
    · have I := insertC blk off cap (c * 20) sz AB AL sz ks dk wr hHr hAr n1 n2 (by omega) hokr hcz (by omega) (by omega) (fun i j i1 ij jb => by rw [hF.out.2 i i1 (by omega), hF.out.2 j (by omega) (by omega)]; omega)
      rw [hsk] at I
      have hli : ¬ ((c * 20 + 20 : Nat) : Int) ≤ (sz : Int) := by omega
      generalize ((c * 20 + 20 : Nat) : Int) = X at *
      clear hHr hAr hokr
      go_wp2_with (fail)
      refine I.mono ?_
      rintro e w' ⟨rfl, q', d', hw', hs', ho'⟩
      have HE : Hid (w' = putRow eI (Sort.ahead w (q + q')) blk off d' ∧ Lv ks sz 20 d' ∧ Sm 0 sz d d') := ⟨by rw [hw', pr_pr HW.out hs'.1], fv_lv hF.out (by omega) hcz hs' ho', sm_trans hS.out (sm_mono hs' (Nat.zero_le _) (Nat.le_refl _))⟩
      clear I hw' hs' ho' hF hS
      go_wp2_with (fail)
      go_loopw [6] (fun vs wr => ∃ (B q : Nat) (dk : Array Int), vs = .int .i64 (B : Int) ∧ 0 < B ∧ B ≤ 2 * sz + 20 ∧ wr = putRow eI (Sort.ahead w q) blk off dk ∧ Hid (Lv ks sz B dk) ∧ Hid (Sm 0 sz d dk)) (fun vs _ => 2 * sz - (intOf vs).toNat)
      case atStart => exact ⟨20, q + q', d', rfl, by omega, by omega, by first | rfl | exact HE.out.1, HE.out.2.1, HE.out.2.2⟩
      case round =>
        obtain ⟨B, q2, d2, rfl, hB0, hB1, hw2, hLv, hS2⟩ := hrel
        have H2 : Hid (wr = putRow eI (Sort.ahead w q2) blk off d2) := hw2
        clear hw2 HE HW
        by_cases hBz : B < sz
        · have hBzi : (B : Int) < (sz : Int) := by omega
          go_wp2
          go_loopw [7, 8] (fun va vb wr2 => ∃ (A q : Nat) (dk : Array Int), va = .int .i64 (A : Int) ∧ vb = .int .i64 ((A + 2 * B : Nat) : Int) ∧ A ≤ sz ∧ wr2 = putRow eI (Sort.ahead w q) blk off dk ∧ Hid (Mv ks sz B A dk) ∧ Hid (Sm 0 sz d dk) ∧ Hid (∃ c, A = c * (2 * B))) (fun va _ _ => sz - (intOf va).toNat)
          case atStart => exact ⟨0, q2, d2, rfl, by simp, by omega, by first | rfl | exact H2.out, lv_mv hLv.out, hS2.out, ⟨0, by simp⟩⟩
          case round =>
            obtain ⟨A, q3, d3, rfl, rfl, hAz, hw3, hMv, hS3, hCx⟩ := hrel
            have hsk : d3.size = sz := by rw [HZ.out]; exact hS3.out.1
            have hHr := holds_pr hH hw3 (by rw [hsk]; exact HZ.out)
            have hAr := al_pr HA.out n1 n2 hw3
            have hokr := okD_sm HOK.out hS3.out (by rw [HZ.out]; exact Nat.le_refl _)
            have HW : Hid (wr = putRow eI (Sort.ahead w q3) blk off d3) := hw3
            clear hw3 H2
            have eAB : ((A + B : Nat) : Int) = (A : Int) + (B : Int) := by omega
            by_cases hlt : A + 2 * B ≤ sz
            · obtain ⟨c, hc⟩ := hCx.out
              have g1 := mv_one hMv.out hc (by omega)
              have g2 := mv_two hMv.out hc (by omega)
              rw [Nat.min_eq_left (by omega)] at g1 g2
              rw [show A + B + B = A + 2 * B by omega] at g2
              have M := symC blk off cap AB AL sz ks sz n1 n2 (by omega) (by omega) (2 * B) A (A + B) (A + 2 * B) d3 wr (by omega) (by omega) (by omega) hlt hsk hHr hAr hokr g1.1 g2.1 (gd_pl g1 g2)
              rw [eAB] at M
              clear eAB
              have HG1 : Hid (∀ i, A ≤ i → i < A + 2 * B → (A : Int) ≤ d3[i]! ∧ d3[i]! < ((A + 2 * B : Nat) : Int)) := gd_rng g1 g2 (by omega) (by omega)
              have HC : Hid (A = c * (2 * B)) := hc
              have hli : ((A + 2 * B : Nat) : Int) ≤ (sz : Int) := by omega
              have e1 : ((A + 2 * B + 2 * B : Nat) : Int) = ((A + 2 * B : Nat) : Int) + 2 * (B : Int) := by omega
              obtain ⟨X, hX⟩ : ∃ X, X = A + 2 * B := ⟨_, rfl⟩
              rw [← hX] at M HG1 hli e1 ⊢
              have HX : Hid (X = A + 2 * B) := hX
              have hX1 : X ≤ 100000 := by omega
              have hX2 : A < X := by omega
              have HE1 : Hid (((X + 2 * B : Nat) : Int) = (X : Int) + 2 * (B : Int)) := e1
              clear hHr hAr hokr hc g1 g2 hX e1
              go_wp2_with (fail)
              refine M.mono ?_
              rintro e w' ⟨rfl, q', d', hw', hs', ho'⟩
              have HE : Hid (w' = putRow eI (Sort.ahead w (q3 + q')) blk off d' ∧ Mv ks sz B X d' ∧ Sm 0 sz d d' ∧ ∃ c, X = c * (2 * B)) := by
                have e5 : X = (c + 1) * (2 * B) := by rw [Nat.succ_mul, ← HC.out]; exact HX.out
                refine ⟨by rw [hw', pr_pr HW.out hs'.1], ?_, sm_trans hS3.out (sm_mono hs' (Nat.zero_le _) (by have := HX.out; omega)), c + 1, e5⟩
                rw [e5]
                have hg := gd_new hs' ho' HG1.out
                have h1 := hMv.out
                rw [HX.out] at hs' hg
                rw [HC.out] at h1 hs' hg
                exact mv_step h1 hB0 hs' hg
              clear M hw' hs' ho' hMv hS3 hCx
              go_wp2_with (fail)
              go_roundw
              case rel => exact ⟨X, q3 + q', d', rfl, by rw [HE1.out], by have := HX.out; omega, HE.out.1, HE.out.2.1, HE.out.2.2.1, HE.out.2.2.2⟩
              case measure => simp [intOf]; omega
            · have hli : ¬ ((A + 2 * B : Nat) : Int) ≤ (sz : Int) := by omega
              by_cases hm : A + B < sz
              · obtain ⟨c, hc⟩ := hCx.out
                have g1 := mv_one hMv.out hc (by omega)
                have g2 := mv_two hMv.out hc (by omega)
                rw [Nat.min_eq_left (by omega)] at g1
                rw [Nat.min_eq_right (by omega)] at g2
                have M := symC blk off cap AB AL sz ks sz n1 n2 (by omega) (by omega) (2 * B) A (A + B) sz d3 wr (by omega) (by omega) (by omega) (Nat.le_refl _) hsk hHr hAr hokr g1.1 g2.1 (gd_pl g1 g2)
                rw [eAB] at M
                clear eAB
                have HG1 : Hid (∀ i, A ≤ i → i < sz → (A : Int) ≤ d3[i]! ∧ d3[i]! < (sz : Int)) := gd_rng g1 g2 (by omega) (by omega)
                have HC : Hid (A = c * (2 * B)) := hc
                have hmi : (A : Int) + (B : Int) < (sz : Int) := by omega
                have hzz : sz < A + 2 * B := by omega
                generalize ((A + 2 * B : Nat) : Int) = X at *
                clear hHr hAr hokr hc g1 g2
                go_wp2_with (fail)
                refine M.mono ?_
                rintro e w' ⟨rfl, q', d', hw', hs', ho'⟩
                have HE : Hid (w' = putRow eI (Sort.ahead w (q3 + q')) blk off d' ∧ Lv ks sz (2 * B) d' ∧ Sm 0 sz d d') := by
                  refine ⟨by rw [hw', pr_pr HW.out hs'.1], ?_, sm_trans hS3.out (sm_mono hs' (Nat.zero_le _) (Nat.le_refl _))⟩
                  have hg := gd_new hs' ho' HG1.out
                  have h1 := hMv.out
                  rw [HC.out] at h1 hs' hg
                  exact mv_end h1 (by rw [← HC.out]; omega) (by rw [← HC.out]; omega) hs' (fun _ => hg)
                clear M hw' hs' ho' hMv hS3 hCx
                go_wp2_with (fail)
                go_roundw
                case rel => exact ⟨2 * B, q3 + q', d', by rw [show ((2 * B : Nat) : Int) = (B : Int) * 2 by omega], by omega, by omega, HE.out.1, HE.out.2.1, HE.out.2.2⟩
                case measure => simp [intOf]; omega
              · have hmi : ¬ (A : Int) + (B : Int) < (sz : Int) := by omega
                clear eAB
                have HE : Hid (Lv ks sz (2 * B) d3) := by
                  obtain ⟨c, hc⟩ := hCx.out
                  have h1 := hMv.out
                  have h0 := fun hz => mv_one hMv.out hc hz
                  rw [hc] at h1
                  refine mv_end h1 (by rw [← hc]; exact hAz) (by rw [← hc]; omega) (sm_refl _ _ _) (fun hz => ?_)
                  rw [← hc] at hz ⊢
                  have := h0 hz
                  rwa [Nat.min_eq_right (by omega)] at this
                generalize ((A + 2 * B : Nat) : Int) = X at *
                clear hHr hAr hokr
                go_wp2_with (fail)
                go_roundw
                case rel => exact ⟨2 * B, q3, d3, by rw [show ((2 * B : Nat) : Int) = (B : Int) * 2 by omega], by omega, by omega, HW.out, HE.out, hS3.out⟩
                case measure => simp [intOf]; omega
        · have hBzi : ¬ (B : Int) < (sz : Int) := by omega
          have HF : Hid (So ks d2 0 sz) := by
            by_cases hz : 0 < sz
            · have := hLv.out 0 (by omega)
              rw [Nat.zero_mul, Nat.min_eq_right (by omega)] at this
              exact this.1
            · exact so_one (by omega)
          go_wp2
          go_end0
          exact ⟨rfl, q2, d2, H2.out, hS2.out, HF.out⟩
set_option maxHeartbeats 1000000 in
theorem sortStableC (blk cap AB AL : Nat) (ks : Int → Int) (d : Array Int) (w : World) (hH : Holds eI w blk 0 d) (hA : Al w AB AL d.size ks) (n1 : AB ≠ blk) (n2 : AL ≠ blk) (hsz : d.size ≤ 100000) (hid : ∀ k, k < d.size → d[k]! = (k : Int)) :
    Calls Try.prog 36 #[.slice (some ⟨blk, 0, none⟩) d.size cap, .func (.func 37) #[] #[.pointer (some ⟨AB, 0, none⟩)]] w fun e w' => e = .returned (.tuple #[]) ∧ ∃ q d', w' = putRow eI (Sort.ahead w q) blk 0 d' ∧ Sm 0 d.size d d' ∧ So ks d' 0 d.size := by
  have S := stableC blk 0 cap AB AL ks d w hH hA n1 n2 hsz hid
  generalize d.size = sz at *
  go_enter Try.func36, Try.ntmps36
  go_wp2_with (fail)
  refine S.mono ?_
  rintro e w' ⟨rfl, h⟩
  have HH : Hid _ := h
  clear S h
  go_wp2_with (fail)
  go_end0
  exact ⟨rfl, HH.out⟩
end Go.Proofs.Ytlfdlifmcabfjaa
