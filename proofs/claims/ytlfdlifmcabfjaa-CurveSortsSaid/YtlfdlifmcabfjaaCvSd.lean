/-
  The library's rotation, and sorting by insertion.
-/
import Derived.Test.YtlfdlifmcabfjaaCvSc
namespace Go.Proofs.Ytlfdlifmcabfjaa
open Go.RowKit Go.Sort
set_option linter.unusedVariables false
set_option linter.unusedSimpArgs false

theorem holds_pr {w wr : World} {q blk off : Nat} {d dk : Array Int} (hH : Holds eI w blk off d) (hw : wr = putRow eI (Sort.ahead w q) blk off dk) (hs : dk.size = d.size) : Holds eI wr blk off dk := by
  rw [hw]; exact holds_putRow eI _ blk off d dk (holds_ahead _ _ _ _ _ _ hH) hs
theorem pr_pr {w wr : World} {q r blk off : Nat} {dk e : Array Int} (hw : wr = putRow eI (Sort.ahead w q) blk off dk) (hs : e.size = dk.size) : putRow eI (Sort.ahead wr r) blk off e = putRow eI (Sort.ahead w (q + r)) blk off e := by
  rw [hw]; exact putRow_ahead_putRow eI w q r blk off dk e hs
set_option maxHeartbeats 2000000 in
theorem rotateC (blk off cap a m b : Nat) (fv : Value) (d : Array Int) (w : World) (hH : Holds eI w blk off d) (h1 : a < m) (h2 : m < b) (h3 : b ≤ d.size) (hsz : d.size ≤ 1000000) :
    Calls Try.prog 54 #[.slice (some ⟨blk, off, none⟩) d.size cap, .int .i64 a, .int .i64 m, .int .i64 b, fv] w fun e w' => e = .returned (.tuple #[]) ∧ ∃ q d', w' = putRow eI (Sort.ahead w q) blk off d' ∧ Via (rtF a m b) d d' := by
  obtain ⟨sz, hsz2⟩ : ∃ sz, sz = d.size := ⟨_, rfl⟩
  rw [← hsz2] at h3 hsz ⊢
  have HZ : Hid (sz = d.size) := hsz2
  clear hsz2
  have e1 : (m : Int) - (a : Int) = ((m - a : Nat) : Int) := by omega
  have e2 : (b : Int) - (m : Int) = ((b - m : Nat) : Int) := by omega
  go_enter Try.func54, Try.ntmps54
  go_wp2
  go_loopw [10, 11] (fun vi vj wr => ∃ (i j q : Nat) (dk : Array Int), vi = .int .i64 (i : Int) ∧ vj = .int .i64 (j : Int) ∧ 0 < i ∧ 0 < j ∧ i ≤ m ∧ m + j ≤ sz ∧ wr = putRow eI (Sort.ahead w q) blk off dk ∧ dk.size = sz ∧ Hid (∀ D, Via (rtF (m - i) m (m + j)) dk D → Via (rtF a m b) d D)) (fun vi vj _ => (intOf vi + intOf vj).toNat)
  case atStart => exact ⟨m - a, b - m, 0, d, rfl, rfl, by omega, by omega, by omega, by omega, (putRow_self _ _ _ _ _ hH).symm, HZ.out.symm, fun D hD => by rw [show m - (m - a) = a by omega, show m + (b - m) = b by omega] at hD; exact hD⟩
  case round =>
    obtain ⟨i, j, q, dk, rfl, rfl, hi, hj, him, hjm, hw2, hsk, hD⟩ := hrel
    have hHr := holds_pr hH hw2 (by rw [hsk]; exact HZ.out)
    have HW : Hid (wr = putRow eI (Sort.ahead w q) blk off dk) := hw2
    have e3 : (m : Int) - (i : Int) = ((m - i : Nat) : Int) := by omega
    clear hw2 e1 e2
    rcases Nat.lt_trichotomy i j with hij | hij | hij
    · have e4 : (m : Int) + (j : Int) - (i : Int) = ((m + j - i : Nat) : Int) := by omega
      have S := swapRangeC blk off cap (m - i) (m + j - i) i fv dk wr hHr (by omega) (by omega) (by omega)
      rw [hsk] at S
      have n1 : ¬ (i : Int) = (j : Int) := by omega
      have n2 : ¬ (j : Int) < (i : Int) := by omega
      have e5 : (j : Int) - (i : Int) = ((j - i : Nat) : Int) := by omega
      clear hHr
      go_wp2_with (fail)
      refine S.mono ?_
      rintro e w' ⟨rfl, r, d', hw', hv⟩
      have HE : Hid (w' = putRow eI (Sort.ahead w (q + r)) blk off d' ∧ d'.size = sz ∧ ∀ D, Via (rtF (m - i) m (m + (j - i))) d' D → Via (rtF a m b) d D) := ⟨by rw [hw', pr_pr HW.out hv.1], by rw [hv.1, hsk], fun D hD' => hD.out D (rt_right hv him hij (by omega) hD')⟩
      clear hw' hv S
      go_wp2_with (fail)
      exact ⟨⟨i, j - i, q + r, d', rfl, rfl, hi, by omega, him, by omega, HE.out.1, HE.out.2.1, HE.out.2.2⟩, by simp [intOf]; omega⟩
    · subst hij
      have S := swapRangeC blk off cap (m - i) m i fv dk wr hHr (by omega) (by omega) (by omega)
      rw [hsk] at S
      clear hHr
      go_wp2_with (fail)
      refine S.mono ?_
      rintro e w' ⟨rfl, r, d', hw', hv⟩
      have HE : Hid (w' = putRow eI (Sort.ahead w (q + r)) blk off d' ∧ Via (rtF a m b) d d') := ⟨by rw [hw', pr_pr HW.out hv.1], hD.out d' (rt_end hv him)⟩
      clear hw' hv S
      go_wp2_with (fail)
      go_end0
      exact ⟨rfl, q + r, d', HE.out.1, HE.out.2⟩
    · have S := swapRangeC blk off cap (m - i) m j fv dk wr hHr (by omega) (by omega) (by omega)
      rw [hsk] at S
      have n1 : ¬ (i : Int) = (j : Int) := by omega
      have n2 : (j : Int) < (i : Int) := by omega
      have e5 : (i : Int) - (j : Int) = ((i - j : Nat) : Int) := by omega
      clear hHr
      go_wp2_with (fail)
      refine S.mono ?_
      rintro e w' ⟨rfl, r, d', hw', hv⟩
      have HE : Hid (w' = putRow eI (Sort.ahead w (q + r)) blk off d' ∧ d'.size = sz ∧ ∀ D, Via (rtF (m - (i - j)) m (m + j)) d' D → Via (rtF a m b) d D) := ⟨by rw [hw', pr_pr HW.out hv.1], by rw [hv.1, hsk], fun D hD' => hD.out D (rt_left hv him hij (by omega) hD')⟩
      clear hw' hv S
      go_wp2_with (fail)
      exact ⟨⟨i - j, j, q + r, d', rfl, rfl, by omega, hj, by omega, hjm, HE.out.1, HE.out.2.1, HE.out.2.2⟩, by simp [intOf]; omega⟩
/-- The numbers are places. -/
def OkD (N : Nat) (d : Array Int) : Prop := ∀ k, k < d.size → 0 ≤ d[k]! ∧ d[k]! < (N : Int)
theorem okD_sm {N a b : Nat} {d e : Array Int} (h : OkD N d) (hs : Sm a b d e) (hb : b ≤ d.size) : OkD N e := fun k hk => by
  rw [hs.1] at hk
  by_cases q : a ≤ k ∧ k < b
  · obtain ⟨j, j1, j2, j3⟩ := hs.2.2.1 k q.1 q.2
    rw [j3]; exact h j (by omega)
  · rw [hs.2.1 k (by omega)]; exact h k hk
theorem al_pr {w wr : World} {q blk off : Nat} {dk : Array Int} {AB AL N : Nat} {ks : Int → Int} (h : Al w AB AL N ks) (h1 : AB ≠ blk) (h2 : AL ≠ blk) (hw : wr = putRow eI (Sort.ahead w q) blk off dk) : Al wr AB AL N ks := by
  rw [hw]
  exact ⟨by rw [pr_other w q blk off dk AB h1]; exact h.1, fun k hk => by rw [cell?_putRow_other _ _ _ _ _ _ (.inl h2)]; exact h.2 k hk⟩
theorem lessQ {w : World} {AB AL N : Nat} {ks : Int → Int} (h : Al w AB AL N ks) (hN : N ≤ 1000000) (x y : Int) (hx : 0 ≤ x ∧ x < (N : Int)) (hy : 0 ≤ y ∧ y < (N : Int)) (n : Nat) :
    Calls Try.prog 37 #[.int .i64 x, .int .i64 y, .pointer (some ⟨AB, 0, none⟩)] (w.drewN n) fun e w' => e = .returned (.int .i64 (cmpV (ks x) (ks y))) ∧ ∃ m, w' = w.drewN m := by
  obtain ⟨x', rfl⟩ : ∃ x' : Nat, x = (x' : Int) := ⟨x.toNat, by omega⟩
  obtain ⟨y', rfl⟩ : ∃ y' : Nat, y = (y' : Int) := ⟨y.toNat, by omega⟩
  exact Calls.quiet_of (lessC AB AL N ks x' y' (w.drewN n) h (by omega) (by omega) hN)
set_option maxHeartbeats 4000000 in
theorem insertC (blk off cap a b : Nat) (AB AL N : Nat) (ks : Int → Int) (d : Array Int) (w : World) (hH : Holds eI w blk off d) (hA : Al w AB AL N ks) (n1 : AB ≠ blk) (n2 : AL ≠ blk) (hN : N ≤ 1000000) (hok : OkD N d) (h1 : a ≤ b) (h3 : b ≤ d.size) (hsz : d.size ≤ 1000000) (hinc : ∀ i j, a ≤ i → i < j → j < b → d[i]! < d[j]!) :
    Calls Try.prog 48 #[.slice (some ⟨blk, off, none⟩) d.size cap, .int .i64 a, .int .i64 b, .func (.func 37) #[] #[.pointer (some ⟨AB, 0, none⟩)]] w fun e w' => e = .returned (.tuple #[]) ∧ ∃ q d', w' = putRow eI (Sort.ahead w q) blk off d' ∧ Sm a b d d' ∧ So ks d' a b := by
  obtain ⟨sz, hsz2⟩ : ∃ sz, sz = d.size := ⟨_, rfl⟩
  rw [← hsz2] at h3 hsz ⊢
  have HZ : Hid (sz = d.size) := hsz2
  have HI : Hid (∀ i j, a ≤ i → i < j → j < b → d[i]! < d[j]!) := hinc
  have HO : Hid (OkD N d) := hok
  have HA : Hid (Al w AB AL N ks) := hA
  clear hsz2 hinc hok hA
  go_enter Try.func48, Try.ntmps48
  go_wp2
  by_cases hab : b ≤ a + 1
  · go_loopw [8] (fun vi wr => vi = .int .i64 ((a : Int) + 1) ∧ wr = w) (fun _ _ => 0)
    case atStart => exact ⟨rfl, rfl⟩
    case round =>
      obtain ⟨rfl, rfl⟩ := hrel
      have n3 : ¬ (a : Int) + 1 < (b : Int) := by omega
      go_wp2
      go_end0
      exact ⟨rfl, 0, d, (putRow_self _ _ _ _ _ hH).symm, sm_refl a b d, so_one hab⟩
  · go_loopw [8] (fun vi wr => ∃ (i q : Nat) (dk : Array Int), vi = .int .i64 (i : Int) ∧ a < i ∧ i ≤ b ∧ wr = putRow eI (Sort.ahead w q) blk off dk ∧ Hid (Sm a i d dk) ∧ Hid (So ks dk a i)) (fun vi _ => b - (intOf vi).toNat)
    case atStart => exact ⟨a + 1, 0, d, by go_num, by omega, by omega, (putRow_self _ _ _ _ _ hH).symm, sm_refl _ _ _, so_one (by omega)⟩
    case round =>
      obtain ⟨i, q0, d0, rfl, hai, hib, hw0, hs0, ho0⟩ := hrel
      by_cases hlt : i < b
      · go_wp2
        have HP : Hid (Pl d0 a i (i + 1)) := fun s t s1 s2 t1 t2 => by
          obtain rfl : t = i := by omega
          obtain ⟨s', y1, y2, y3⟩ := hs0.out.2.2.1 s s1 s2
          rw [y3, hs0.out.2.1 t (.inr (Nat.le_refl _))]
          exact HI.out s' t y1 y2 hlt
        have H0 : Hid (wr = putRow eI (Sort.ahead w q0) blk off d0) := hw0
        have hz0 : d0.size = sz := by rw [HZ.out]; exact hs0.out.1
        have HO0 : Hid (OkD N d0) := okD_sm HO.out hs0.out (by rw [← HZ.out]; omega)
        clear hw0
        go_loopw [9] (fun vj wr2 => ∃ (j q : Nat) (dk : Array Int), vj = .int .i64 (j : Int) ∧ a ≤ j ∧ j ≤ i ∧ wr2 = putRow eI (Sort.ahead w q) blk off dk ∧ Hid (Via (dnF i j) d0 dk) ∧ Hid (∀ t, j ≤ t → t < i → Bf ks d0[i]! d0[t]!)) (fun vj _ => (intOf vj).toNat)
        case atStart => exact ⟨i, q0, d0, rfl, by omega, Nat.le_refl _, rfl, dn_zero i d0, fun t t1 t2 => by omega⟩
        case round =>
          obtain ⟨j, q, dk, rfl, haj, hji, hw2, hv, hbf⟩ := hrel
          have hsk : dk.size = sz := by rw [hv.out.1]; exact hz0
          have hAr := al_pr HA.out n1 n2 hw2
          have HOk : Hid (OkD N dk) := fun t ht => by
            rw [hv.out.1] at ht
            rw [hv.out.2 t ht]
            refine HO0.out _ ?_
            unfold dnF; repeat' split
            all_goals omega
          obtain ⟨G, hG⟩ : ∃ G : Nat → Int, ∀ t, G t = dk[t]! := ⟨fun t => dk[t]!, fun _ => rfl⟩
          have hcw : ∀ t, t < sz → wr.cell? ⟨blk, off + t, none⟩ = some (.int .i64 (G t)) := fun t ht => by
            rw [hw2, hG]; exact cell?_putRow _ _ _ _ d dk (holds_ahead _ _ _ _ _ _ hH) (by rw [hsk]; exact HZ.out) t (by omega)
          have hfw : ∀ t, t < sz → wr.frozen? ⟨blk, off + t, none⟩ = false := fun t ht => by
            rw [hw2, frozen?_putRow]; exact ((holds_ahead _ _ q _ _ _ hH) t (by rw [← HZ.out]; exact ht)).2
          have HW : Hid (wr = putRow eI (Sort.ahead w q) blk off dk) := hw2
          have HG : Hid (∀ t, G t = dk[t]!) := hG
          clear hw2 hG
          by_cases hja : a < j
          · have hj1 : (a : Int) < (j : Int) := by omega
            have hL := fun n => lessQ hAr hN (G j) (G (j - 1)) (by rw [HG.out]; exact HOk.out j (by omega)) (by rw [HG.out]; exact HOk.out (j - 1) (by omega)) n
            have gj : G j = d0[i]! := by rw [HG.out, hv.out.2 j (by omega)]; congr 1; unfold dnF; rw [if_neg (by omega), if_pos rfl]
            have gj1 : G (j - 1) = d0[j - 1]! := by rw [HG.out, hv.out.2 (j - 1) (by omega)]; congr 1; unfold dnF; rw [if_neg (by omega), if_neg (by omega)]
            have hlt2 : G (j - 1) < G j := by rw [gj, gj1]; exact HP.out (j - 1) i (by omega) (by omega) (Nat.le_refl _) (by omega)
            by_cases hc : cmpV (ks (G j)) (ks (G (j - 1))) < 0
            · have HB : Hid (Bf ks d0[i]! d0[j - 1]!) := by rw [← gj, ← gj1]; exact (bf_key hlt2).2 (cmpV_lt.1 hc)
              have e1 : (j : Int) - 1 = ((j - 1 : Nat) : Int) := by omega
              clear gj gj1 hlt2
              go_wp2
              go_quiet (first | (go_at_call 37; exact hL _))
              go_wp2
              go_region
              all_goals go_wp2
              refine ⟨⟨j - 1, q + nq + 1, swp dk j (j - 1), rfl, by omega, by omega, pr_swapN w wr q nq blk off dk _ _ _ _ HW.out (HG.out _) (HG.out _) (by omega) (by omega), ?_, fun t t1 t2 => ?_⟩, by simp [intOf]; omega⟩
              · have := dn_step (m := i) (k := j - 1) (d := d0) (e := dk) (by rw [show j - 1 + 1 = j by omega]; exact hv.out) (by omega) (by omega)
                rw [show j - 1 + 1 = j by omega] at this
                exact this
              · by_cases ht : t = j - 1
                · rw [ht]; exact HB.out
                · exact hbf.out t (by omega) t2
            · have HB : Hid (¬ Bf ks d0[i]! d0[j - 1]!) := by show ¬ _; rw [← gj, ← gj1]; exact fun h => hc (cmpV_lt.2 ((bf_key hlt2).1 h))
              clear gj gj1 hlt2
              go_wp2
              go_quiet (first | (go_at_call 37; exact hL _))
              go_wp2
              refine ⟨⟨i + 1, q + nq, dk, by go_num, by omega, by omega, by rw [HW.out, pr_drewN], ?_, ?_⟩, by simp [intOf]; omega⟩
              · exact sm_trans (sm_mono hs0.out (Nat.le_refl _) (by omega)) (dn_sm hv.out haj hji (by omega) (by omega))
              · refine mrg_last (m := i) rfl ho0.out HP.out (by omega) haj hji (fun t t1 t2 h => ?_) hbf.out hv.out
                by_cases ht : t = j - 1
                · rw [ht] at h; exact HB.out h
                · exact HB.out (bf_trans h (ho0.out t (j - 1) t1 (by omega) (by omega)))
          · obtain rfl : j = a := by omega
            have hj1 : decide ((j : Int) < (j : Int)) = false := by simp
            go_wp2
            go_quiet (fail)
            go_wp2
            refine ⟨⟨i + 1, q + nq, dk, by go_num, by omega, by omega, by rw [HW.out, pr_drewN], ?_, ?_⟩, by simp [intOf]; omega⟩
            · exact sm_trans (sm_mono hs0.out (Nat.le_refl _) (by omega)) (dn_sm hv.out haj hji (by omega) (by omega))
            · exact mrg_last (m := i) rfl ho0.out HP.out (by omega) haj hji (fun t t1 t2 h => by omega) hbf.out hv.out
      · obtain rfl : i = b := by omega
        have H0 : Hid (wr = putRow eI (Sort.ahead w q0) blk off d0) := hw0
        clear hw0
        go_wp2
        go_end0
        exact ⟨rfl, q0, d0, H0.out, hs0.out, ho0.out⟩
end Go.Proofs.Ytlfdlifmcabfjaa
