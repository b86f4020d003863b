/-
  The library's merge of two rising rows: the whole.
-/
import Derived.Test.YtlfdlifmcabfjaaCvSe
namespace Go.Proofs.Ytlfdlifmcabfjaa
open Go.RowKit Go.Sort
set_option linter.unusedVariables false
set_option linter.unusedSimpArgs false

set_option maxRecDepth 100000 in
set_option maxHeartbeats 16000000 in
theorem sym_genA (blk off cap AB AL N : Nat) (ks : Int → Int) (sz : Nat) (n1 : AB ≠ blk) (n2 : AL ≠ blk) (hN : N ≤ 1000000) (hsz : sz ≤ 1000000) (L : Nat) (ih : SymP blk off cap AB AL N ks sz L) (a m b : Nat) (d : Array Int) (w : World) (hL' : b - a ≤ L + 1) (ham : a + 1 < m) (hmb : m + 1 < b) (hcs : (a + b) / 2 < m) (hb : b ≤ sz) (HZ' : d.size = sz) (hH : Holds eI w blk off d) (hA : Al w AB AL N ks) (hok : OkD N d) (ho1 : So ks d a m) (ho2 : So ks d m b) (hp : Pl d a m b) :
    Calls Try.prog 49 #[.slice (some ⟨blk, off, none⟩) sz cap, .int .i64 a, .int .i64 m, .int .i64 b, .func (.func 37) #[] #[.pointer (some ⟨AB, 0, none⟩)]] w fun e w' => e = .returned (.tuple #[]) ∧ ∃ q d', w' = putRow eI (Sort.ahead w q) blk off d' ∧ Sm a b d d' ∧ So ks d' a b := by
  have HZ : Hid (sz = d.size) := HZ'.symm
  have HA : Hid (Al w AB AL N ks) := hA
  have HOK : Hid (OkD N d) := hok
  have HS1 : Hid (So ks d a m) := ho1
  have HS2' : Hid (So ks d m b) := ho2
  have HPL : Hid (Pl d a m b) := hp
  have ea : ((m : Int) - (a : Int) == 1) = false := beq_eq_false_iff_ne.2 (by omega)
  have eb : ((b : Int) - (m : Int) == 1) = false := beq_eq_false_iff_ne.2 (by omega)
  obtain ⟨mid, hmid⟩ : ∃ mid, mid = (a + b) / 2 := ⟨_, rfl⟩
  have hmidf := half a b
  rw [← hmid] at hmidf
  have HMD : Hid (mid = (a + b) / 2) := hmid
  have hmd1 : 2 * mid ≤ a + b := by omega
  have hmd2 : a + b ≤ 2 * mid + 1 := by omega
  clear hmid
  clear hA hok ho1 ho2 hp HZ'
  rw [← HMD.out] at hcs
  · have hcsi : (mid : Int) < (m : Int) := by omega
    obtain ⟨lo, hlo⟩ : ∃ lo, lo = mid + m - b := ⟨_, rfl⟩
    obtain ⟨hi, hhi⟩ : ∃ hi, hi = mid := ⟨_, rfl⟩
    have HCC : Hid ((mid < m ∧ lo = mid + m - b ∧ hi = mid) ∨ (m ≤ mid ∧ lo = a ∧ hi = m)) := .inl ⟨hcs, hlo, hhi⟩
    have elo : (mid : Int) + (m : Int) - (b : Int) = (lo : Int) := by omega
    have HHI : Hid (hi = mid) := hhi
    have hhi2 : hi ≤ mid := by omega
    have hhi3 : mid ≤ hi := by omega
    have hlo2 : lo + b ≤ mid + m := by omega
    have hlo4 : mid + m ≤ lo + b := by omega
    clear hlo hhi
    go_enter Try.func49, Try.ntmps49
    go_wp2
    go_loopw [20, 21] (fun vs vr wr => ∃ (s r q : Nat), vs = .int .i64 (s : Int) ∧ vr = .int .i64 (r : Int) ∧ lo ≤ s ∧ s ≤ r ∧ r ≤ hi ∧ wr = putRow eI (Sort.ahead w q) blk off d ∧ Hid (∀ t, lo ≤ t → t < s → ¬ Bf ks d[mid + m - 1 - t]! d[t]!) ∧ Hid (∀ t, r ≤ t → t < hi → Bf ks d[mid + m - 1 - t]! d[t]!)) (fun vs vr _ => (intOf vr - intOf vs).toNat)
    case atStart => exact ⟨lo, hi, 0, rfl, by rw [HHI.out], Nat.le_refl _, by omega, Nat.le_refl _, (putRow_self _ _ _ _ _ hH).symm, fun t t1 t2 => by omega, fun t t1 t2 => by omega⟩
    case round =>
      obtain ⟨s, r, q, rfl, rfl, hs1', hsr, hsr', hw2, hl, hr⟩ := hrel
      by_cases hlt : s < r
      · obtain ⟨c, hcc⟩ : ∃ c, c = (s + r) / 2 := ⟨_, rfl⟩
        have hhf := half s r
        rw [← hcc] at hhf
        have hi1 : s ≤ c := by omega
        have hi2 : c < r := by omega
        have hlti : (s : Int) < (r : Int) := by omega
        have hpc : (mid : Int) + (m : Int) - 1 - (c : Int) = ((mid + m - 1 - c : Nat) : Int) := by omega
        obtain ⟨pc, hpce⟩ : ∃ pc, pc = mid + m - 1 - c := ⟨_, rfl⟩
        rw [← hpce] at hpc
        have p1 : m ≤ pc := by omega
        have p2 : pc < b := by omega
        have p3 : a ≤ c := by omega
        have p4 : c < m := by omega
        clear hcc
        obtain ⟨dk, hdk⟩ : ∃ dk, dk = d := ⟨_, rfl⟩
        rw [← hdk] at hw2
        have hsk : dk.size = sz := by rw [hdk]; exact HZ.out.symm
        have hAr := al_pr HA.out n1 n2 hw2
        obtain ⟨G, hG⟩ : ∃ G : Nat → Int, ∀ t, G t = dk[t]! := ⟨fun t => dk[t]!, fun _ => rfl⟩
        have hcw : ∀ t, t < sz → wr.cell? ⟨blk, off + t, none⟩ = some (.int .i64 (G t)) := fun t ht => by
          rw [hw2, hG]; exact cell?_putRow _ _ _ _ d dk (holds_ahead _ _ _ _ _ _ hH) (by rw [hsk]; exact HZ.out) t (by omega)
        have hfw : ∀ t, t < sz → wr.frozen? ⟨blk, off + t, none⟩ = false := fun t ht => by
          rw [hw2, frozen?_putRow]; exact ((holds_ahead _ _ q _ _ _ hH) t (by rw [← HZ.out]; exact ht)).2
        have HW : Hid (wr = putRow eI (Sort.ahead w q) blk off dk) := hw2
        have HG : Hid (∀ t, G t = dk[t]!) := hG
        clear hw2
        subst hdk
        have hL := fun n => lessQ hAr hN (G pc) (G c) (by rw [HG.out]; exact HOK.out pc (by omega)) (by rw [HG.out]; exact HOK.out c (by omega)) n
        have hlt2 : G c < G pc := by rw [HG.out, HG.out]; exact HPL.out c pc p3 p4 p1 p2
        by_cases hcm : cmpV (ks (G pc)) (ks (G c)) < 0
        · have HB : Hid (Bf ks dk[pc]! dk[c]!) := by rw [← HG.out, ← HG.out]; exact (bf_key hlt2).2 (cmpV_lt.1 hcm)
          have HPC : Hid (pc = mid + m - 1 - c) := hpce
          clear hG hlt2 hpce
          go_wp2
          go_quiet (first | (go_at_call 37; exact hL _))
          go_wp2
          go_roundw
          case rel =>
            refine ⟨s, c, q + nq, rfl, rfl, hs1', hi1, by omega, by rw [HW.out, pr_drewN], hl.out, fun t t1 t2 => ?_⟩
            by_cases ht : t = c
            · rw [ht, ← HPC.out]; exact HB.out
            · have hp := HPC.out
              by_cases hr' : r ≤ t
              · exact hr.out t hr' t2
              · exact bf_trans (HS2'.out (mid + m - 1 - t) pc (by omega) (by omega) p2) (bf_trans HB.out (HS1.out c t p3 (by omega) (by omega)))
          case measure => simp [intOf]; omega
        · have HB : Hid (¬ Bf ks dk[pc]! dk[c]!) := by show ¬ _; rw [← HG.out, ← HG.out]; exact fun g => hcm (cmpV_lt.2 ((bf_key hlt2).1 g))
          have hcb : decide (cmpV (ks (G pc)) (ks (G c)) < 0) = false := decide_eq_false hcm
          have hc2 : 0 ≤ cmpV (ks (G pc)) (ks (G c)) := by omega
          have HPC : Hid (pc = mid + m - 1 - c) := hpce
          clear hG hlt2 hpce
          go_wp2
          go_quiet (first | (go_at_call 37; exact hL _))
          go_wp2
          go_roundw
          case rel =>
            refine ⟨c + 1, r, q + nq, by go_num, rfl, by omega, by omega, hsr', by rw [HW.out, pr_drewN], fun t t1 t2 g => ?_, hr.out⟩
            have hp := HPC.out
            by_cases ht : t = c
            · rw [ht, ← hp] at g; exact HB.out g
            · by_cases ht2 : t < s
              · exact hl.out t t1 ht2 g
              · exact HB.out (bf_trans (HS2'.out pc (mid + m - 1 - t) p1 (by omega) (by omega)) (bf_trans g (HS1.out t c (by omega) (by omega) p4)))
          case measure => simp [intOf]; omega
      · skip
        obtain rfl : s = r := by omega
        have hsf := split_facts HS1.out HS2'.out HPL.out ham hmb HMD.out HCC.out hs1' hsr' hl.out hr.out
        obtain ⟨en, hen⟩ : ∃ en, en = mid + m - s := ⟨_, rfl⟩
        rw [← hen] at hsf
        obtain ⟨hA1, hB1, hs2, hs3, hs4, hs5, hmd, hs6, hs7, hs8⟩ := hsf
        have hAB : Hid ((∀ x y, a ≤ x → x < s → en ≤ y → y < b → Bf ks d[x]! d[y]!) ∧ (∀ x y, s ≤ x → x < m → m ≤ y → y < en → Bf ks d[y]! d[x]!)) := ⟨hA1, hB1⟩
        have een : (mid : Int) + (m : Int) - (s : Int) = (en : Int) := by omega
        have H0 : Hid (wr = putRow eI (Sort.ahead w q) blk off d) := hw2
        have hni : ¬ (s : Int) < (s : Int) := by omega
        have HMM : Hid (mid = s + (en - m)) := hmd
        have hmx1 : en + s ≤ mid + m := by omega
        have hmx2 : mid + m ≤ en + s := by omega
        clear hA1 hB1 hw2 hl hr hmidf hen hmd
        by_cases c0 : s < m ∧ m < en
        · have R := rotateC blk off cap s m en (.func (.func 37) #[] #[.pointer (some ⟨AB, 0, none⟩)]) d wr (holds_pr hH H0.out rfl) c0.1 c0.2 (by rw [← HZ.out]; omega) (by rw [← HZ.out]; omega)
          rw [← HZ.out] at R
          have v1 : (s : Int) < (m : Int) := by omega
          have v2 : (m : Int) < (en : Int) := by omega
          go_wp2_with (fail)
          refine R.mono ?_
          rintro e we ⟨rfl, q7, ek, hw7, hve'⟩
          obtain ⟨qe, hqe⟩ : ∃ qe, qe = q + q7 := ⟨_, rfl⟩
          have HWe : Hid (we = putRow eI (Sort.ahead w qe) blk off ek) := by show _ = _; rw [hw7, hqe, pr_pr H0.out hve'.1]
          have hve : Hid (Via (rtF s m en) d ek) := hve'
          clear R hw7 hve' hqe
          have hz_e : ek.size = sz := by rw [HZ.out]; exact hve.out.1
          have hoke : Hid (OkD N ek) := okD_sm HOK.out (rt_sm hve.out hs3 hs4 (by rw [← HZ.out]; omega)) (by rw [← HZ.out]; omega)
          have hSp : Hid (Spl ks ek a s mid en b) := mrg_split HS1.out HS2'.out HPL.out (by rw [← HZ.out]; exact hb) hs2 hs3 hs4 hs5 HMM.out hAB.out.1 hAB.out.2 hve.out
          by_cases c1 : a < s ∧ s < mid
          · have S1 := ih a s mid ek we (by omega) c1.1 c1.2 (by omega) hz_e (by rw [HWe.out]; exact holds_putRow eI _ blk off d _ (holds_ahead _ _ _ _ _ _ hH) (by rw [hz_e]; exact HZ.out)) (al_pr HA.out n1 n2 HWe.out) hoke.out hSp.out.s1 hSp.out.s2 hSp.out.p1
            have u1 : (a : Int) < (s : Int) := by omega
            have u2 : (s : Int) < (mid : Int) := by omega
            go_wp2_with (fail)
            all_goals (
              refine S1.mono ?_
              rintro e w8 ⟨rfl, q8, e8, hw8, sm8, so8⟩
              have HE8 : Hid (w8 = putRow eI (Sort.ahead w (qe + q8)) blk off e8 ∧ Sm a mid ek e8 ∧ So ks e8 a mid) := ⟨by rw [hw8, pr_pr HWe.out sm8.1], sm8, so8⟩
              clear S1 hw8 sm8 so8
              have hz_e1 : e8.size = sz := (show Sm a mid ek e8 from HE8.out.2.1).1.trans hz_e
              by_cases c2 : mid < en ∧ en < b
              · have S2 := ih mid en b e8 w8 (by omega) c2.1 c2.2 hb hz_e1 (by rw [HE8.out.1]; exact holds_putRow eI _ blk off d _ (holds_ahead _ _ _ _ _ _ hH) (by rw [hz_e1]; exact HZ.out)) (al_pr HA.out n1 n2 HE8.out.1) (okD_sm hoke.out (show Sm a mid ek e8 from HE8.out.2.1) (by rw [hz_e]; omega)) (so_sm (show Sm a mid ek e8 from HE8.out.2.1) hSp.out.s3 (.inr (Nat.le_refl _))) (so_sm (show Sm a mid ek e8 from HE8.out.2.1) hSp.out.s4 (.inr (by omega))) (pl_sm (show Sm a mid ek e8 from HE8.out.2.1) hSp.out.p2 (.inr (Nat.le_refl _)))
                have t1 : (mid : Int) < (en : Int) := by omega
                have t2 : (en : Int) < (b : Int) := by omega
                go_wp2_with (fail)
                all_goals (
                  refine S2.mono ?_
                  rintro e w9 ⟨rfl, q9, e9, hw9, sm9, so9⟩
                  have HE9 : Hid (w9 = putRow eI (Sort.ahead w ((qe + q8) + q9)) blk off e9 ∧ Sm mid b e8 e9 ∧ So ks e9 mid b) := ⟨by rw [hw9, pr_pr HE8.out.1 sm9.1], sm9, so9⟩
                  clear S2 hw9 sm9 so9
                  go_wp2_with (fail)
                  all_goals (
                    go_end0
                    exact ⟨rfl, (qe + q8) + q9, e9, HE9.out.1, sm_trans (sm_trans (sm_mono (rt_sm hve.out hs3 hs4 (by rw [← HZ.out]; omega)) hs2 hs5) (sm_mono HE8.out.2.1 (Nat.le_refl _) (by omega))) (sm_mono HE9.out.2.1 (by omega) (Nat.le_refl _)), so_join HE8.out.2.1 HE8.out.2.2 HE9.out.2.1 HE9.out.2.2 hSp.out.cr (by omega) (by omega)⟩))
              · have HS2 : Hid (So ks e8 mid b) := so_cat (by omega) (so_sm (show Sm a mid ek e8 from HE8.out.2.1) hSp.out.s3 (.inr (Nat.le_refl _))) (so_sm (show Sm a mid ek e8 from HE8.out.2.1) hSp.out.s4 (.inr (by omega))) (by omega) (by omega)
                by_cases t1 : (mid : Int) < (en : Int)
                · have t2 : ¬ (en : Int) < (b : Int) := by omega
                  go_wp2_with (fail)
                  all_goals (
                    go_end0
                    exact ⟨rfl, (qe + q8), e8, HE8.out.1, sm_trans (sm_trans (sm_mono (rt_sm hve.out hs3 hs4 (by rw [← HZ.out]; omega)) hs2 hs5) (sm_mono HE8.out.2.1 (Nat.le_refl _) (by omega))) (sm_mono (sm_refl mid b _) (by omega) (Nat.le_refl _)), so_join HE8.out.2.1 HE8.out.2.2 (sm_refl mid b _) HS2.out hSp.out.cr (by omega) (by omega)⟩)
                · go_wp2_with (fail)
                  all_goals (
                    go_end0
                    exact ⟨rfl, (qe + q8), e8, HE8.out.1, sm_trans (sm_trans (sm_mono (rt_sm hve.out hs3 hs4 (by rw [← HZ.out]; omega)) hs2 hs5) (sm_mono HE8.out.2.1 (Nat.le_refl _) (by omega))) (sm_mono (sm_refl mid b _) (by omega) (Nat.le_refl _)), so_join HE8.out.2.1 HE8.out.2.2 (sm_refl mid b _) HS2.out hSp.out.cr (by omega) (by omega)⟩))
          · have HS1' : Hid (So ks ek a mid) := so_cat (by omega) hSp.out.s1 hSp.out.s2 (by omega) (by omega)
            by_cases u1 : (a : Int) < (s : Int)
            · have u2 : ¬ (s : Int) < (mid : Int) := by omega
              have hz_e1 : ek.size = sz := (show Sm a mid ek ek from (sm_refl a mid ek)).1.trans hz_e
              by_cases c2 : mid < en ∧ en < b
              · have S2 := ih mid en b ek we (by omega) c2.1 c2.2 hb hz_e1 (by rw [HWe.out]; exact holds_putRow eI _ blk off d _ (holds_ahead _ _ _ _ _ _ hH) (by rw [hz_e1]; exact HZ.out)) (al_pr HA.out n1 n2 HWe.out) (okD_sm hoke.out (show Sm a mid ek ek from (sm_refl a mid ek)) (by rw [hz_e]; omega)) (so_sm (show Sm a mid ek ek from (sm_refl a mid ek)) hSp.out.s3 (.inr (Nat.le_refl _))) (so_sm (show Sm a mid ek ek from (sm_refl a mid ek)) hSp.out.s4 (.inr (by omega))) (pl_sm (show Sm a mid ek ek from (sm_refl a mid ek)) hSp.out.p2 (.inr (Nat.le_refl _)))
                have t1 : (mid : Int) < (en : Int) := by omega
                have t2 : (en : Int) < (b : Int) := by omega
                go_wp2_with (fail)
                all_goals (
                  refine S2.mono ?_
                  rintro e w9 ⟨rfl, q9, e9, hw9, sm9, so9⟩
                  have HE9 : Hid (w9 = putRow eI (Sort.ahead w (qe + q9)) blk off e9 ∧ Sm mid b ek e9 ∧ So ks e9 mid b) := ⟨by rw [hw9, pr_pr HWe.out sm9.1], sm9, so9⟩
                  clear S2 hw9 sm9 so9
                  go_wp2_with (fail)
                  all_goals (
                    go_end0
                    exact ⟨rfl, qe + q9, e9, HE9.out.1, sm_trans (sm_trans (sm_mono (rt_sm hve.out hs3 hs4 (by rw [← HZ.out]; omega)) hs2 hs5) (sm_mono (sm_refl a mid ek) (Nat.le_refl _) (by omega))) (sm_mono HE9.out.2.1 (by omega) (Nat.le_refl _)), so_join (sm_refl a mid ek) HS1'.out HE9.out.2.1 HE9.out.2.2 hSp.out.cr (by omega) (by omega)⟩))
              · have HS2 : Hid (So ks ek mid b) := so_cat (by omega) (so_sm (show Sm a mid ek ek from (sm_refl a mid ek)) hSp.out.s3 (.inr (Nat.le_refl _))) (so_sm (show Sm a mid ek ek from (sm_refl a mid ek)) hSp.out.s4 (.inr (by omega))) (by omega) (by omega)
                by_cases t1 : (mid : Int) < (en : Int)
                · have t2 : ¬ (en : Int) < (b : Int) := by omega
                  go_wp2_with (fail)
                  all_goals (
                    go_end0
                    exact ⟨rfl, qe, ek, HWe.out, sm_trans (sm_trans (sm_mono (rt_sm hve.out hs3 hs4 (by rw [← HZ.out]; omega)) hs2 hs5) (sm_mono (sm_refl a mid ek) (Nat.le_refl _) (by omega))) (sm_mono (sm_refl mid b _) (by omega) (Nat.le_refl _)), so_join (sm_refl a mid ek) HS1'.out (sm_refl mid b _) HS2.out hSp.out.cr (by omega) (by omega)⟩)
                · go_wp2_with (fail)
                  all_goals (
                    go_end0
                    exact ⟨rfl, qe, ek, HWe.out, sm_trans (sm_trans (sm_mono (rt_sm hve.out hs3 hs4 (by rw [← HZ.out]; omega)) hs2 hs5) (sm_mono (sm_refl a mid ek) (Nat.le_refl _) (by omega))) (sm_mono (sm_refl mid b _) (by omega) (Nat.le_refl _)), so_join (sm_refl a mid ek) HS1'.out (sm_refl mid b _) HS2.out hSp.out.cr (by omega) (by omega)⟩)
            · skip
              have hz_e1 : ek.size = sz := (show Sm a mid ek ek from (sm_refl a mid ek)).1.trans hz_e
              by_cases c2 : mid < en ∧ en < b
              · have S2 := ih mid en b ek we (by omega) c2.1 c2.2 hb hz_e1 (by rw [HWe.out]; exact holds_putRow eI _ blk off d _ (holds_ahead _ _ _ _ _ _ hH) (by rw [hz_e1]; exact HZ.out)) (al_pr HA.out n1 n2 HWe.out) (okD_sm hoke.out (show Sm a mid ek ek from (sm_refl a mid ek)) (by rw [hz_e]; omega)) (so_sm (show Sm a mid ek ek from (sm_refl a mid ek)) hSp.out.s3 (.inr (Nat.le_refl _))) (so_sm (show Sm a mid ek ek from (sm_refl a mid ek)) hSp.out.s4 (.inr (by omega))) (pl_sm (show Sm a mid ek ek from (sm_refl a mid ek)) hSp.out.p2 (.inr (Nat.le_refl _)))
                have t1 : (mid : Int) < (en : Int) := by omega
                have t2 : (en : Int) < (b : Int) := by omega
                go_wp2_with (fail)
                all_goals (
                  refine S2.mono ?_
                  rintro e w9 ⟨rfl, q9, e9, hw9, sm9, so9⟩
                  have HE9 : Hid (w9 = putRow eI (Sort.ahead w (qe + q9)) blk off e9 ∧ Sm mid b ek e9 ∧ So ks e9 mid b) := ⟨by rw [hw9, pr_pr HWe.out sm9.1], sm9, so9⟩
                  clear S2 hw9 sm9 so9
                  go_wp2_with (fail)
                  all_goals (
                    go_end0
                    exact ⟨rfl, qe + q9, e9, HE9.out.1, sm_trans (sm_trans (sm_mono (rt_sm hve.out hs3 hs4 (by rw [← HZ.out]; omega)) hs2 hs5) (sm_mono (sm_refl a mid ek) (Nat.le_refl _) (by omega))) (sm_mono HE9.out.2.1 (by omega) (Nat.le_refl _)), so_join (sm_refl a mid ek) HS1'.out HE9.out.2.1 HE9.out.2.2 hSp.out.cr (by omega) (by omega)⟩))
              · have HS2 : Hid (So ks ek mid b) := so_cat (by omega) (so_sm (show Sm a mid ek ek from (sm_refl a mid ek)) hSp.out.s3 (.inr (Nat.le_refl _))) (so_sm (show Sm a mid ek ek from (sm_refl a mid ek)) hSp.out.s4 (.inr (by omega))) (by omega) (by omega)
                by_cases t1 : (mid : Int) < (en : Int)
                · have t2 : ¬ (en : Int) < (b : Int) := by omega
                  go_wp2_with (fail)
                  all_goals (
                    go_end0
                    exact ⟨rfl, qe, ek, HWe.out, sm_trans (sm_trans (sm_mono (rt_sm hve.out hs3 hs4 (by rw [← HZ.out]; omega)) hs2 hs5) (sm_mono (sm_refl a mid ek) (Nat.le_refl _) (by omega))) (sm_mono (sm_refl mid b _) (by omega) (Nat.le_refl _)), so_join (sm_refl a mid ek) HS1'.out (sm_refl mid b _) HS2.out hSp.out.cr (by omega) (by omega)⟩)
                · go_wp2_with (fail)
                  all_goals (
                    go_end0
                    exact ⟨rfl, qe, ek, HWe.out, sm_trans (sm_trans (sm_mono (rt_sm hve.out hs3 hs4 (by rw [← HZ.out]; omega)) hs2 hs5) (sm_mono (sm_refl a mid ek) (Nat.le_refl _) (by omega))) (sm_mono (sm_refl mid b _) (by omega) (Nat.le_refl _)), so_join (sm_refl a mid ek) HS1'.out (sm_refl mid b _) HS2.out hSp.out.cr (by omega) (by omega)⟩)
        · obtain ⟨ek, hek⟩ : ∃ ek, ek = d := ⟨_, rfl⟩
          obtain ⟨we, hwe⟩ : ∃ we, we = wr := ⟨_, rfl⟩
          obtain ⟨qe, hqe⟩ : ∃ qe, qe = q := ⟨_, rfl⟩
          have HWe : Hid (we = putRow eI (Sort.ahead w qe) blk off ek) := by rw [hwe, hqe, hek]; exact H0.out
          have hve : Hid (Via (rtF s m en) d ek) := by rw [hek]; exact rt_id d hs3 hs4 c0
          rw [← hwe]
          clear hek hwe hqe
          by_cases v1 : (s : Int) < (m : Int)
          · have v2 : ¬ (m : Int) < (en : Int) := by omega
            have hz_e : ek.size = sz := by rw [HZ.out]; exact hve.out.1
            have hoke : Hid (OkD N ek) := okD_sm HOK.out (rt_sm hve.out hs3 hs4 (by rw [← HZ.out]; omega)) (by rw [← HZ.out]; omega)
            have hSp : Hid (Spl ks ek a s mid en b) := mrg_split HS1.out HS2'.out HPL.out (by rw [← HZ.out]; exact hb) hs2 hs3 hs4 hs5 HMM.out hAB.out.1 hAB.out.2 hve.out
            by_cases c1 : a < s ∧ s < mid
            · have S1 := ih a s mid ek we (by omega) c1.1 c1.2 (by omega) hz_e (by rw [HWe.out]; exact holds_putRow eI _ blk off d _ (holds_ahead _ _ _ _ _ _ hH) (by rw [hz_e]; exact HZ.out)) (al_pr HA.out n1 n2 HWe.out) hoke.out hSp.out.s1 hSp.out.s2 hSp.out.p1
              have u1 : (a : Int) < (s : Int) := by omega
              have u2 : (s : Int) < (mid : Int) := by omega
              go_wp2_with (fail)
              all_goals (
                refine S1.mono ?_
                rintro e w8 ⟨rfl, q8, e8, hw8, sm8, so8⟩
                have HE8 : Hid (w8 = putRow eI (Sort.ahead w (qe + q8)) blk off e8 ∧ Sm a mid ek e8 ∧ So ks e8 a mid) := ⟨by rw [hw8, pr_pr HWe.out sm8.1], sm8, so8⟩
                clear S1 hw8 sm8 so8
                have hz_e1 : e8.size = sz := (show Sm a mid ek e8 from HE8.out.2.1).1.trans hz_e
                by_cases c2 : mid < en ∧ en < b
                · have S2 := ih mid en b e8 w8 (by omega) c2.1 c2.2 hb hz_e1 (by rw [HE8.out.1]; exact holds_putRow eI _ blk off d _ (holds_ahead _ _ _ _ _ _ hH) (by rw [hz_e1]; exact HZ.out)) (al_pr HA.out n1 n2 HE8.out.1) (okD_sm hoke.out (show Sm a mid ek e8 from HE8.out.2.1) (by rw [hz_e]; omega)) (so_sm (show Sm a mid ek e8 from HE8.out.2.1) hSp.out.s3 (.inr (Nat.le_refl _))) (so_sm (show Sm a mid ek e8 from HE8.out.2.1) hSp.out.s4 (.inr (by omega))) (pl_sm (show Sm a mid ek e8 from HE8.out.2.1) hSp.out.p2 (.inr (Nat.le_refl _)))
                  have t1 : (mid : Int) < (en : Int) := by omega
                  have t2 : (en : Int) < (b : Int) := by omega
                  go_wp2_with (fail)
                  all_goals (
                    refine S2.mono ?_
                    rintro e w9 ⟨rfl, q9, e9, hw9, sm9, so9⟩
                    have HE9 : Hid (w9 = putRow eI (Sort.ahead w ((qe + q8) + q9)) blk off e9 ∧ Sm mid b e8 e9 ∧ So ks e9 mid b) := ⟨by rw [hw9, pr_pr HE8.out.1 sm9.1], sm9, so9⟩
                    clear S2 hw9 sm9 so9
                    go_wp2_with (fail)
                    all_goals (
                      go_end0
                      exact ⟨rfl, (qe + q8) + q9, e9, HE9.out.1, sm_trans (sm_trans (sm_mono (rt_sm hve.out hs3 hs4 (by rw [← HZ.out]; omega)) hs2 hs5) (sm_mono HE8.out.2.1 (Nat.le_refl _) (by omega))) (sm_mono HE9.out.2.1 (by omega) (Nat.le_refl _)), so_join HE8.out.2.1 HE8.out.2.2 HE9.out.2.1 HE9.out.2.2 hSp.out.cr (by omega) (by omega)⟩))
                · have HS2 : Hid (So ks e8 mid b) := so_cat (by omega) (so_sm (show Sm a mid ek e8 from HE8.out.2.1) hSp.out.s3 (.inr (Nat.le_refl _))) (so_sm (show Sm a mid ek e8 from HE8.out.2.1) hSp.out.s4 (.inr (by omega))) (by omega) (by omega)
                  by_cases t1 : (mid : Int) < (en : Int)
                  · have t2 : ¬ (en : Int) < (b : Int) := by omega
                    go_wp2_with (fail)
                    all_goals (
                      go_end0
                      exact ⟨rfl, (qe + q8), e8, HE8.out.1, sm_trans (sm_trans (sm_mono (rt_sm hve.out hs3 hs4 (by rw [← HZ.out]; omega)) hs2 hs5) (sm_mono HE8.out.2.1 (Nat.le_refl _) (by omega))) (sm_mono (sm_refl mid b _) (by omega) (Nat.le_refl _)), so_join HE8.out.2.1 HE8.out.2.2 (sm_refl mid b _) HS2.out hSp.out.cr (by omega) (by omega)⟩)
                  · go_wp2_with (fail)
                    all_goals (
                      go_end0
                      exact ⟨rfl, (qe + q8), e8, HE8.out.1, sm_trans (sm_trans (sm_mono (rt_sm hve.out hs3 hs4 (by rw [← HZ.out]; omega)) hs2 hs5) (sm_mono HE8.out.2.1 (Nat.le_refl _) (by omega))) (sm_mono (sm_refl mid b _) (by omega) (Nat.le_refl _)), so_join HE8.out.2.1 HE8.out.2.2 (sm_refl mid b _) HS2.out hSp.out.cr (by omega) (by omega)⟩))
            · have HS1' : Hid (So ks ek a mid) := so_cat (by omega) hSp.out.s1 hSp.out.s2 (by omega) (by omega)
              by_cases u1 : (a : Int) < (s : Int)
              · have u2 : ¬ (s : Int) < (mid : Int) := by omega
                have hz_e1 : ek.size = sz := (show Sm a mid ek ek from (sm_refl a mid ek)).1.trans hz_e
                by_cases c2 : mid < en ∧ en < b
                · have S2 := ih mid en b ek we (by omega) c2.1 c2.2 hb hz_e1 (by rw [HWe.out]; exact holds_putRow eI _ blk off d _ (holds_ahead _ _ _ _ _ _ hH) (by rw [hz_e1]; exact HZ.out)) (al_pr HA.out n1 n2 HWe.out) (okD_sm hoke.out (show Sm a mid ek ek from (sm_refl a mid ek)) (by rw [hz_e]; omega)) (so_sm (show Sm a mid ek ek from (sm_refl a mid ek)) hSp.out.s3 (.inr (Nat.le_refl _))) (so_sm (show Sm a mid ek ek from (sm_refl a mid ek)) hSp.out.s4 (.inr (by omega))) (pl_sm (show Sm a mid ek ek from (sm_refl a mid ek)) hSp.out.p2 (.inr (Nat.le_refl _)))
                  have t1 : (mid : Int) < (en : Int) := by omega
                  have t2 : (en : Int) < (b : Int) := by omega
                  go_wp2_with (fail)
                  all_goals (
                    refine S2.mono ?_
                    rintro e w9 ⟨rfl, q9, e9, hw9, sm9, so9⟩
                    have HE9 : Hid (w9 = putRow eI (Sort.ahead w (qe + q9)) blk off e9 ∧ Sm mid b ek e9 ∧ So ks e9 mid b) := ⟨by rw [hw9, pr_pr HWe.out sm9.1], sm9, so9⟩
                    clear S2 hw9 sm9 so9
                    go_wp2_with (fail)
                    all_goals (
                      go_end0
                      exact ⟨rfl, qe + q9, e9, HE9.out.1, sm_trans (sm_trans (sm_mono (rt_sm hve.out hs3 hs4 (by rw [← HZ.out]; omega)) hs2 hs5) (sm_mono (sm_refl a mid ek) (Nat.le_refl _) (by omega))) (sm_mono HE9.out.2.1 (by omega) (Nat.le_refl _)), so_join (sm_refl a mid ek) HS1'.out HE9.out.2.1 HE9.out.2.2 hSp.out.cr (by omega) (by omega)⟩))
                · have HS2 : Hid (So ks ek mid b) := so_cat (by omega) (so_sm (show Sm a mid ek ek from (sm_refl a mid ek)) hSp.out.s3 (.inr (Nat.le_refl _))) (so_sm (show Sm a mid ek ek from (sm_refl a mid ek)) hSp.out.s4 (.inr (by omega))) (by omega) (by omega)
                  by_cases t1 : (mid : Int) < (en : Int)
                  · have t2 : ¬ (en : Int) < (b : Int) := by omega
                    go_wp2_with (fail)
                    all_goals (
                      go_end0
                      exact ⟨rfl, qe, ek, HWe.out, sm_trans (sm_trans (sm_mono (rt_sm hve.out hs3 hs4 (by rw [← HZ.out]; omega)) hs2 hs5) (sm_mono (sm_refl a mid ek) (Nat.le_refl _) (by omega))) (sm_mono (sm_refl mid b _) (by omega) (Nat.le_refl _)), so_join (sm_refl a mid ek) HS1'.out (sm_refl mid b _) HS2.out hSp.out.cr (by omega) (by omega)⟩)
                  · go_wp2_with (fail)
                    all_goals (
                      go_end0
                      exact ⟨rfl, qe, ek, HWe.out, sm_trans (sm_trans (sm_mono (rt_sm hve.out hs3 hs4 (by rw [← HZ.out]; omega)) hs2 hs5) (sm_mono (sm_refl a mid ek) (Nat.le_refl _) (by omega))) (sm_mono (sm_refl mid b _) (by omega) (Nat.le_refl _)), so_join (sm_refl a mid ek) HS1'.out (sm_refl mid b _) HS2.out hSp.out.cr (by omega) (by omega)⟩)
              · skip
                have hz_e1 : ek.size = sz := (show Sm a mid ek ek from (sm_refl a mid ek)).1.trans hz_e
                by_cases c2 : mid < en ∧ en < b
                · have S2 := ih mid en b ek we (by omega) c2.1 c2.2 hb hz_e1 (by rw [HWe.out]; exact holds_putRow eI _ blk off d _ (holds_ahead _ _ _ _ _ _ hH) (by rw [hz_e1]; exact HZ.out)) (al_pr HA.out n1 n2 HWe.out) (okD_sm hoke.out (show Sm a mid ek ek from (sm_refl a mid ek)) (by rw [hz_e]; omega)) (so_sm (show Sm a mid ek ek from (sm_refl a mid ek)) hSp.out.s3 (.inr (Nat.le_refl _))) (so_sm (show Sm a mid ek ek from (sm_refl a mid ek)) hSp.out.s4 (.inr (by omega))) (pl_sm (show Sm a mid ek ek from (sm_refl a mid ek)) hSp.out.p2 (.inr (Nat.le_refl _)))
                  have t1 : (mid : Int) < (en : Int) := by omega
                  have t2 : (en : Int) < (b : Int) := by omega
                  go_wp2_with (fail)
                  all_goals (
                    refine S2.mono ?_
                    rintro e w9 ⟨rfl, q9, e9, hw9, sm9, so9⟩
                    have HE9 : Hid (w9 = putRow eI (Sort.ahead w (qe + q9)) blk off e9 ∧ Sm mid b ek e9 ∧ So ks e9 mid b) := ⟨by rw [hw9, pr_pr HWe.out sm9.1], sm9, so9⟩
                    clear S2 hw9 sm9 so9
                    go_wp2_with (fail)
                    all_goals (
                      go_end0
                      exact ⟨rfl, qe + q9, e9, HE9.out.1, sm_trans (sm_trans (sm_mono (rt_sm hve.out hs3 hs4 (by rw [← HZ.out]; omega)) hs2 hs5) (sm_mono (sm_refl a mid ek) (Nat.le_refl _) (by omega))) (sm_mono HE9.out.2.1 (by omega) (Nat.le_refl _)), so_join (sm_refl a mid ek) HS1'.out HE9.out.2.1 HE9.out.2.2 hSp.out.cr (by omega) (by omega)⟩))
                · have HS2 : Hid (So ks ek mid b) := so_cat (by omega) (so_sm (show Sm a mid ek ek from (sm_refl a mid ek)) hSp.out.s3 (.inr (Nat.le_refl _))) (so_sm (show Sm a mid ek ek from (sm_refl a mid ek)) hSp.out.s4 (.inr (by omega))) (by omega) (by omega)
                  by_cases t1 : (mid : Int) < (en : Int)
                  · have t2 : ¬ (en : Int) < (b : Int) := by omega
                    go_wp2_with (fail)
                    all_goals (
                      go_end0
                      exact ⟨rfl, qe, ek, HWe.out, sm_trans (sm_trans (sm_mono (rt_sm hve.out hs3 hs4 (by rw [← HZ.out]; omega)) hs2 hs5) (sm_mono (sm_refl a mid ek) (Nat.le_refl _) (by omega))) (sm_mono (sm_refl mid b _) (by omega) (Nat.le_refl _)), so_join (sm_refl a mid ek) HS1'.out (sm_refl mid b _) HS2.out hSp.out.cr (by omega) (by omega)⟩)
                  · go_wp2_with (fail)
                    all_goals (
                      go_end0
                      exact ⟨rfl, qe, ek, HWe.out, sm_trans (sm_trans (sm_mono (rt_sm hve.out hs3 hs4 (by rw [← HZ.out]; omega)) hs2 hs5) (sm_mono (sm_refl a mid ek) (Nat.le_refl _) (by omega))) (sm_mono (sm_refl mid b _) (by omega) (Nat.le_refl _)), so_join (sm_refl a mid ek) HS1'.out (sm_refl mid b _) HS2.out hSp.out.cr (by omega) (by omega)⟩)
          · skip
            have hz_e : ek.size = sz := by rw [HZ.out]; exact hve.out.1
            have hoke : Hid (OkD N ek) := okD_sm HOK.out (rt_sm hve.out hs3 hs4 (by rw [← HZ.out]; omega)) (by rw [← HZ.out]; omega)
            have hSp : Hid (Spl ks ek a s mid en b) := mrg_split HS1.out HS2'.out HPL.out (by rw [← HZ.out]; exact hb) hs2 hs3 hs4 hs5 HMM.out hAB.out.1 hAB.out.2 hve.out
            by_cases c1 : a < s ∧ s < mid
            · have S1 := ih a s mid ek we (by omega) c1.1 c1.2 (by omega) hz_e (by rw [HWe.out]; exact holds_putRow eI _ blk off d _ (holds_ahead _ _ _ _ _ _ hH) (by rw [hz_e]; exact HZ.out)) (al_pr HA.out n1 n2 HWe.out) hoke.out hSp.out.s1 hSp.out.s2 hSp.out.p1
              have u1 : (a : Int) < (s : Int) := by omega
              have u2 : (s : Int) < (mid : Int) := by omega
              go_wp2_with (fail)
              all_goals (
                refine S1.mono ?_
                rintro e w8 ⟨rfl, q8, e8, hw8, sm8, so8⟩
                have HE8 : Hid (w8 = putRow eI (Sort.ahead w (qe + q8)) blk off e8 ∧ Sm a mid ek e8 ∧ So ks e8 a mid) := ⟨by rw [hw8, pr_pr HWe.out sm8.1], sm8, so8⟩
                clear S1 hw8 sm8 so8
                have hz_e1 : e8.size = sz := (show Sm a mid ek e8 from HE8.out.2.1).1.trans hz_e
                by_cases c2 : mid < en ∧ en < b
                · have S2 := ih mid en b e8 w8 (by omega) c2.1 c2.2 hb hz_e1 (by rw [HE8.out.1]; exact holds_putRow eI _ blk off d _ (holds_ahead _ _ _ _ _ _ hH) (by rw [hz_e1]; exact HZ.out)) (al_pr HA.out n1 n2 HE8.out.1) (okD_sm hoke.out (show Sm a mid ek e8 from HE8.out.2.1) (by rw [hz_e]; omega)) (so_sm (show Sm a mid ek e8 from HE8.out.2.1) hSp.out.s3 (.inr (Nat.le_refl _))) (so_sm (show Sm a mid ek e8 from HE8.out.2.1) hSp.out.s4 (.inr (by omega))) (pl_sm (show Sm a mid ek e8 from HE8.out.2.1) hSp.out.p2 (.inr (Nat.le_refl _)))
                  have t1 : (mid : Int) < (en : Int) := by omega
                  have t2 : (en : Int) < (b : Int) := by omega
                  go_wp2_with (fail)
                  all_goals (
                    refine S2.mono ?_
                    rintro e w9 ⟨rfl, q9, e9, hw9, sm9, so9⟩
                    have HE9 : Hid (w9 = putRow eI (Sort.ahead w ((qe + q8) + q9)) blk off e9 ∧ Sm mid b e8 e9 ∧ So ks e9 mid b) := ⟨by rw [hw9, pr_pr HE8.out.1 sm9.1], sm9, so9⟩
                    clear S2 hw9 sm9 so9
                    go_wp2_with (fail)
                    all_goals (
                      go_end0
                      exact ⟨rfl, (qe + q8) + q9, e9, HE9.out.1, sm_trans (sm_trans (sm_mono (rt_sm hve.out hs3 hs4 (by rw [← HZ.out]; omega)) hs2 hs5) (sm_mono HE8.out.2.1 (Nat.le_refl _) (by omega))) (sm_mono HE9.out.2.1 (by omega) (Nat.le_refl _)), so_join HE8.out.2.1 HE8.out.2.2 HE9.out.2.1 HE9.out.2.2 hSp.out.cr (by omega) (by omega)⟩))
                · have HS2 : Hid (So ks e8 mid b) := so_cat (by omega) (so_sm (show Sm a mid ek e8 from HE8.out.2.1) hSp.out.s3 (.inr (Nat.le_refl _))) (so_sm (show Sm a mid ek e8 from HE8.out.2.1) hSp.out.s4 (.inr (by omega))) (by omega) (by omega)
                  by_cases t1 : (mid : Int) < (en : Int)
                  · have t2 : ¬ (en : Int) < (b : Int) := by omega
                    go_wp2_with (fail)
                    all_goals (
                      go_end0
                      exact ⟨rfl, (qe + q8), e8, HE8.out.1, sm_trans (sm_trans (sm_mono (rt_sm hve.out hs3 hs4 (by rw [← HZ.out]; omega)) hs2 hs5) (sm_mono HE8.out.2.1 (Nat.le_refl _) (by omega))) (sm_mono (sm_refl mid b _) (by omega) (Nat.le_refl _)), so_join HE8.out.2.1 HE8.out.2.2 (sm_refl mid b _) HS2.out hSp.out.cr (by omega) (by omega)⟩)
                  · go_wp2_with (fail)
                    all_goals (
                      go_end0
                      exact ⟨rfl, (qe + q8), e8, HE8.out.1, sm_trans (sm_trans (sm_mono (rt_sm hve.out hs3 hs4 (by rw [← HZ.out]; omega)) hs2 hs5) (sm_mono HE8.out.2.1 (Nat.le_refl _) (by omega))) (sm_mono (sm_refl mid b _) (by omega) (Nat.le_refl _)), so_join HE8.out.2.1 HE8.out.2.2 (sm_refl mid b _) HS2.out hSp.out.cr (by omega) (by omega)⟩))
            · have HS1' : Hid (So ks ek a mid) := so_cat (by omega) hSp.out.s1 hSp.out.s2 (by omega) (by omega)
              by_cases u1 : (a : Int) < (s : Int)
              · have u2 : ¬ (s : Int) < (mid : Int) := by omega
                have hz_e1 : ek.size = sz := (show Sm a mid ek ek from (sm_refl a mid ek)).1.trans hz_e
                by_cases c2 : mid < en ∧ en < b
                · have S2 := ih mid en b ek we (by omega) c2.1 c2.2 hb hz_e1 (by rw [HWe.out]; exact holds_putRow eI _ blk off d _ (holds_ahead _ _ _ _ _ _ hH) (by rw [hz_e1]; exact HZ.out)) (al_pr HA.out n1 n2 HWe.out) (okD_sm hoke.out (show Sm a mid ek ek from (sm_refl a mid ek)) (by rw [hz_e]; omega)) (so_sm (show Sm a mid ek ek from (sm_refl a mid ek)) hSp.out.s3 (.inr (Nat.le_refl _))) (so_sm (show Sm a mid ek ek from (sm_refl a mid ek)) hSp.out.s4 (.inr (by omega))) (pl_sm (show Sm a mid ek ek from (sm_refl a mid ek)) hSp.out.p2 (.inr (Nat.le_refl _)))
                  have t1 : (mid : Int) < (en : Int) := by omega
                  have t2 : (en : Int) < (b : Int) := by omega
                  go_wp2_with (fail)
                  all_goals (
                    refine S2.mono ?_
                    rintro e w9 ⟨rfl, q9, e9, hw9, sm9, so9⟩
                    have HE9 : Hid (w9 = putRow eI (Sort.ahead w (qe + q9)) blk off e9 ∧ Sm mid b ek e9 ∧ So ks e9 mid b) := ⟨by rw [hw9, pr_pr HWe.out sm9.1], sm9, so9⟩
                    clear S2 hw9 sm9 so9
                    go_wp2_with (fail)
                    all_goals (
                      go_end0
                      exact ⟨rfl, qe + q9, e9, HE9.out.1, sm_trans (sm_trans (sm_mono (rt_sm hve.out hs3 hs4 (by rw [← HZ.out]; omega)) hs2 hs5) (sm_mono (sm_refl a mid ek) (Nat.le_refl _) (by omega))) (sm_mono HE9.out.2.1 (by omega) (Nat.le_refl _)), so_join (sm_refl a mid ek) HS1'.out HE9.out.2.1 HE9.out.2.2 hSp.out.cr (by omega) (by omega)⟩))
                · have HS2 : Hid (So ks ek mid b) := so_cat (by omega) (so_sm (show Sm a mid ek ek from (sm_refl a mid ek)) hSp.out.s3 (.inr (Nat.le_refl _))) (so_sm (show Sm a mid ek ek from (sm_refl a mid ek)) hSp.out.s4 (.inr (by omega))) (by omega) (by omega)
                  by_cases t1 : (mid : Int) < (en : Int)
                  · have t2 : ¬ (en : Int) < (b : Int) := by omega
                    go_wp2_with (fail)
                    all_goals (
                      go_end0
                      exact ⟨rfl, qe, ek, HWe.out, sm_trans (sm_trans (sm_mono (rt_sm hve.out hs3 hs4 (by rw [← HZ.out]; omega)) hs2 hs5) (sm_mono (sm_refl a mid ek) (Nat.le_refl _) (by omega))) (sm_mono (sm_refl mid b _) (by omega) (Nat.le_refl _)), so_join (sm_refl a mid ek) HS1'.out (sm_refl mid b _) HS2.out hSp.out.cr (by omega) (by omega)⟩)
                  · go_wp2_with (fail)
                    all_goals (
                      go_end0
                      exact ⟨rfl, qe, ek, HWe.out, sm_trans (sm_trans (sm_mono (rt_sm hve.out hs3 hs4 (by rw [← HZ.out]; omega)) hs2 hs5) (sm_mono (sm_refl a mid ek) (Nat.le_refl _) (by omega))) (sm_mono (sm_refl mid b _) (by omega) (Nat.le_refl _)), so_join (sm_refl a mid ek) HS1'.out (sm_refl mid b _) HS2.out hSp.out.cr (by omega) (by omega)⟩)
              · skip
                have hz_e1 : ek.size = sz := (show Sm a mid ek ek from (sm_refl a mid ek)).1.trans hz_e
                by_cases c2 : mid < en ∧ en < b
                · have S2 := ih mid en b ek we (by omega) c2.1 c2.2 hb hz_e1 (by rw [HWe.out]; exact holds_putRow eI _ blk off d _ (holds_ahead _ _ _ _ _ _ hH) (by rw [hz_e1]; exact HZ.out)) (al_pr HA.out n1 n2 HWe.out) (okD_sm hoke.out (show Sm a mid ek ek from (sm_refl a mid ek)) (by rw [hz_e]; omega)) (so_sm (show Sm a mid ek ek from (sm_refl a mid ek)) hSp.out.s3 (.inr (Nat.le_refl _))) (so_sm (show Sm a mid ek ek from (sm_refl a mid ek)) hSp.out.s4 (.inr (by omega))) (pl_sm (show Sm a mid ek ek from (sm_refl a mid ek)) hSp.out.p2 (.inr (Nat.le_refl _)))
                  have t1 : (mid : Int) < (en : Int) := by omega
                  have t2 : (en : Int) < (b : Int) := by omega
                  go_wp2_with (fail)
                  all_goals (
                    refine S2.mono ?_
                    rintro e w9 ⟨rfl, q9, e9, hw9, sm9, so9⟩
                    have HE9 : Hid (w9 = putRow eI (Sort.ahead w (qe + q9)) blk off e9 ∧ Sm mid b ek e9 ∧ So ks e9 mid b) := ⟨by rw [hw9, pr_pr HWe.out sm9.1], sm9, so9⟩
                    clear S2 hw9 sm9 so9
                    go_wp2_with (fail)
                    all_goals (
                      go_end0
                      exact ⟨rfl, qe + q9, e9, HE9.out.1, sm_trans (sm_trans (sm_mono (rt_sm hve.out hs3 hs4 (by rw [← HZ.out]; omega)) hs2 hs5) (sm_mono (sm_refl a mid ek) (Nat.le_refl _) (by omega))) (sm_mono HE9.out.2.1 (by omega) (Nat.le_refl _)), so_join (sm_refl a mid ek) HS1'.out HE9.out.2.1 HE9.out.2.2 hSp.out.cr (by omega) (by omega)⟩))
                · have HS2 : Hid (So ks ek mid b) := so_cat (by omega) (so_sm (show Sm a mid ek ek from (sm_refl a mid ek)) hSp.out.s3 (.inr (Nat.le_refl _))) (so_sm (show Sm a mid ek ek from (sm_refl a mid ek)) hSp.out.s4 (.inr (by omega))) (by omega) (by omega)
                  by_cases t1 : (mid : Int) < (en : Int)
                  · have t2 : ¬ (en : Int) < (b : Int) := by omega
                    go_wp2_with (fail)
                    all_goals (
                      go_end0
                      exact ⟨rfl, qe, ek, HWe.out, sm_trans (sm_trans (sm_mono (rt_sm hve.out hs3 hs4 (by rw [← HZ.out]; omega)) hs2 hs5) (sm_mono (sm_refl a mid ek) (Nat.le_refl _) (by omega))) (sm_mono (sm_refl mid b _) (by omega) (Nat.le_refl _)), so_join (sm_refl a mid ek) HS1'.out (sm_refl mid b _) HS2.out hSp.out.cr (by omega) (by omega)⟩)
                  · go_wp2_with (fail)
                    all_goals (
                      go_end0
                      exact ⟨rfl, qe, ek, HWe.out, sm_trans (sm_trans (sm_mono (rt_sm hve.out hs3 hs4 (by rw [← HZ.out]; omega)) hs2 hs5) (sm_mono (sm_refl a mid ek) (Nat.le_refl _) (by omega))) (sm_mono (sm_refl mid b _) (by omega) (Nat.le_refl _)), so_join (sm_refl a mid ek) HS1'.out (sm_refl mid b _) HS2.out hSp.out.cr (by omega) (by omega)⟩)
set_option maxRecDepth 100000 in
set_option maxHeartbeats 16000000 in
theorem sym_genB (blk off cap AB AL N : Nat) (ks : Int → Int) (sz : Nat) (n1 : AB ≠ blk) (n2 : AL ≠ blk) (hN : N ≤ 1000000) (hsz : sz ≤ 1000000) (L : Nat) (ih : SymP blk off cap AB AL N ks sz L) (a m b : Nat) (d : Array Int) (w : World) (hL' : b - a ≤ L + 1) (ham : a + 1 < m) (hmb : m + 1 < b) (hcs : ¬ (a + b) / 2 < m) (hb : b ≤ sz) (HZ' : d.size = sz) (hH : Holds eI w blk off d) (hA : Al w AB AL N ks) (hok : OkD N d) (ho1 : So ks d a m) (ho2 : So ks d m b) (hp : Pl d a m b) :
    Calls Try.prog 49 #[.slice (some ⟨blk, off, none⟩) sz cap, .int .i64 a, .int .i64 m, .int .i64 b, .func (.func 37) #[] #[.pointer (some ⟨AB, 0, none⟩)]] w fun e w' => e = .returned (.tuple #[]) ∧ ∃ q d', w' = putRow eI (Sort.ahead w q) blk off d' ∧ Sm a b d d' ∧ So ks d' a b := by
  have HZ : Hid (sz = d.size) := HZ'.symm
  have HA : Hid (Al w AB AL N ks) := hA
  have HOK : Hid (OkD N d) := hok
  have HS1 : Hid (So ks d a m) := ho1
  have HS2' : Hid (So ks d m b) := ho2
  have HPL : Hid (Pl d a m b) := hp
  have ea : ((m : Int) - (a : Int) == 1) = false := beq_eq_false_iff_ne.2 (by omega)
  have eb : ((b : Int) - (m : Int) == 1) = false := beq_eq_false_iff_ne.2 (by omega)
  obtain ⟨mid, hmid⟩ : ∃ mid, mid = (a + b) / 2 := ⟨_, rfl⟩
  have hmidf := half a b
  rw [← hmid] at hmidf
  have HMD : Hid (mid = (a + b) / 2) := hmid
  have hmd1 : 2 * mid ≤ a + b := by omega
  have hmd2 : a + b ≤ 2 * mid + 1 := by omega
  clear hmid
  clear hA hok ho1 ho2 hp HZ'
  rw [← HMD.out] at hcs
  · have hcsi : ¬ (mid : Int) < (m : Int) := by omega
    obtain ⟨lo, hlo⟩ : ∃ lo, lo = a := ⟨_, rfl⟩
    obtain ⟨hi, hhi⟩ : ∃ hi, hi = m := ⟨_, rfl⟩
    have HCC : Hid ((mid < m ∧ lo = mid + m - b ∧ hi = mid) ∨ (m ≤ mid ∧ lo = a ∧ hi = m)) := .inr ⟨by omega, hlo, hhi⟩
    have HHI : Hid (hi = m) := hhi
    have HLO : Hid (lo = a) := hlo
    have hhi2 : hi ≤ m := by omega
    have hhi3 : m ≤ hi := by omega
    have hlo2 : lo ≤ a := by omega
    have hlo3 : a ≤ lo := by omega
    clear hlo hhi
    go_enter Try.func49, Try.ntmps49
    go_wp2
    go_loopw [20, 21] (fun vs vr wr => ∃ (s r q : Nat), vs = .int .i64 (s : Int) ∧ vr = .int .i64 (r : Int) ∧ lo ≤ s ∧ s ≤ r ∧ r ≤ hi ∧ wr = putRow eI (Sort.ahead w q) blk off d ∧ Hid (∀ t, lo ≤ t → t < s → ¬ Bf ks d[mid + m - 1 - t]! d[t]!) ∧ Hid (∀ t, r ≤ t → t < hi → Bf ks d[mid + m - 1 - t]! d[t]!)) (fun vs vr _ => (intOf vr - intOf vs).toNat)
    case atStart => exact ⟨lo, hi, 0, by rw [HLO.out], by rw [HHI.out], Nat.le_refl _, by omega, Nat.le_refl _, (putRow_self _ _ _ _ _ hH).symm, fun t t1 t2 => by omega, fun t t1 t2 => by omega⟩
    case round =>
      obtain ⟨s, r, q, rfl, rfl, hs1', hsr, hsr', hw2, hl, hr⟩ := hrel
      by_cases hlt : s < r
      · obtain ⟨c, hcc⟩ : ∃ c, c = (s + r) / 2 := ⟨_, rfl⟩
        have hhf := half s r
        rw [← hcc] at hhf
        have hi1 : s ≤ c := by omega
        have hi2 : c < r := by omega
        have hlti : (s : Int) < (r : Int) := by omega
        have hpc : (mid : Int) + (m : Int) - 1 - (c : Int) = ((mid + m - 1 - c : Nat) : Int) := by omega
        obtain ⟨pc, hpce⟩ : ∃ pc, pc = mid + m - 1 - c := ⟨_, rfl⟩
        rw [← hpce] at hpc
        have p1 : m ≤ pc := by omega
        have p2 : pc < b := by omega
        have p3 : a ≤ c := by omega
        have p4 : c < m := by omega
        clear hcc
        obtain ⟨dk, hdk⟩ : ∃ dk, dk = d := ⟨_, rfl⟩
        rw [← hdk] at hw2
        have hsk : dk.size = sz := by rw [hdk]; exact HZ.out.symm
        have hAr := al_pr HA.out n1 n2 hw2
        obtain ⟨G, hG⟩ : ∃ G : Nat → Int, ∀ t, G t = dk[t]! := ⟨fun t => dk[t]!, fun _ => rfl⟩
        have hcw : ∀ t, t < sz → wr.cell? ⟨blk, off + t, none⟩ = some (.int .i64 (G t)) := fun t ht => by
          rw [hw2, hG]; exact cell?_putRow _ _ _ _ d dk (holds_ahead _ _ _ _ _ _ hH) (by rw [hsk]; exact HZ.out) t (by omega)
        have hfw : ∀ t, t < sz → wr.frozen? ⟨blk, off + t, none⟩ = false := fun t ht => by
          rw [hw2, frozen?_putRow]; exact ((holds_ahead _ _ q _ _ _ hH) t (by rw [← HZ.out]; exact ht)).2
        have HW : Hid (wr = putRow eI (Sort.ahead w q) blk off dk) := hw2
        have HG : Hid (∀ t, G t = dk[t]!) := hG
        clear hw2
        subst hdk
        have hL := fun n => lessQ hAr hN (G pc) (G c) (by rw [HG.out]; exact HOK.out pc (by omega)) (by rw [HG.out]; exact HOK.out c (by omega)) n
        have hlt2 : G c < G pc := by rw [HG.out, HG.out]; exact HPL.out c pc p3 p4 p1 p2
        by_cases hcm : cmpV (ks (G pc)) (ks (G c)) < 0
        · have HB : Hid (Bf ks dk[pc]! dk[c]!) := by rw [← HG.out, ← HG.out]; exact (bf_key hlt2).2 (cmpV_lt.1 hcm)
          have HPC : Hid (pc = mid + m - 1 - c) := hpce
          clear hG hlt2 hpce
          go_wp2
          go_quiet (first | (go_at_call 37; exact hL _))
          go_wp2
          go_roundw
          case rel =>
            refine ⟨s, c, q + nq, rfl, rfl, hs1', hi1, by omega, by rw [HW.out, pr_drewN], hl.out, fun t t1 t2 => ?_⟩
            by_cases ht : t = c
            · rw [ht, ← HPC.out]; exact HB.out
            · have hp := HPC.out
              by_cases hr' : r ≤ t
              · exact hr.out t hr' t2
              · exact bf_trans (HS2'.out (mid + m - 1 - t) pc (by omega) (by omega) p2) (bf_trans HB.out (HS1.out c t p3 (by omega) (by omega)))
          case measure => simp [intOf]; omega
        · have HB : Hid (¬ Bf ks dk[pc]! dk[c]!) := by show ¬ _; rw [← HG.out, ← HG.out]; exact fun g => hcm (cmpV_lt.2 ((bf_key hlt2).1 g))
          have hcb : decide (cmpV (ks (G pc)) (ks (G c)) < 0) = false := decide_eq_false hcm
          have hc2 : 0 ≤ cmpV (ks (G pc)) (ks (G c)) := by omega
          have HPC : Hid (pc = mid + m - 1 - c) := hpce
          clear hG hlt2 hpce
          go_wp2
          go_quiet (first | (go_at_call 37; exact hL _))
          go_wp2
          go_roundw
          case rel =>
            refine ⟨c + 1, r, q + nq, by go_num, rfl, by omega, by omega, hsr', by rw [HW.out, pr_drewN], fun t t1 t2 g => ?_, hr.out⟩
            have hp := HPC.out
            by_cases ht : t = c
            · rw [ht, ← hp] at g; exact HB.out g
            · by_cases ht2 : t < s
              · exact hl.out t t1 ht2 g
              · exact HB.out (bf_trans (HS2'.out pc (mid + m - 1 - t) p1 (by omega) (by omega)) (bf_trans g (HS1.out t c (by omega) (by omega) p4)))
          case measure => simp [intOf]; omega
      · skip
        obtain rfl : s = r := by omega
        have hsf := split_facts HS1.out HS2'.out HPL.out ham hmb HMD.out HCC.out hs1' hsr' hl.out hr.out
        obtain ⟨en, hen⟩ : ∃ en, en = mid + m - s := ⟨_, rfl⟩
        rw [← hen] at hsf
        obtain ⟨hA1, hB1, hs2, hs3, hs4, hs5, hmd, hs6, hs7, hs8⟩ := hsf
        have hAB : Hid ((∀ x y, a ≤ x → x < s → en ≤ y → y < b → Bf ks d[x]! d[y]!) ∧ (∀ x y, s ≤ x → x < m → m ≤ y → y < en → Bf ks d[y]! d[x]!)) := ⟨hA1, hB1⟩
        have een : (mid : Int) + (m : Int) - (s : Int) = (en : Int) := by omega
        have H0 : Hid (wr = putRow eI (Sort.ahead w q) blk off d) := hw2
        have hni : ¬ (s : Int) < (s : Int) := by omega
        have HMM : Hid (mid = s + (en - m)) := hmd
        have hmx1 : en + s ≤ mid + m := by omega
        have hmx2 : mid + m ≤ en + s := by omega
        clear hA1 hB1 hw2 hl hr hmidf hen hmd
        by_cases c0 : s < m ∧ m < en
        · have R := rotateC blk off cap s m en (.func (.func 37) #[] #[.pointer (some ⟨AB, 0, none⟩)]) d wr (holds_pr hH H0.out rfl) c0.1 c0.2 (by rw [← HZ.out]; omega) (by rw [← HZ.out]; omega)
          rw [← HZ.out] at R
          have v1 : (s : Int) < (m : Int) := by omega
          have v2 : (m : Int) < (en : Int) := by omega
          go_wp2_with (fail)
          refine R.mono ?_
          rintro e we ⟨rfl, q7, ek, hw7, hve'⟩
          obtain ⟨qe, hqe⟩ : ∃ qe, qe = q + q7 := ⟨_, rfl⟩
          have HWe : Hid (we = putRow eI (Sort.ahead w qe) blk off ek) := by show _ = _; rw [hw7, hqe, pr_pr H0.out hve'.1]
          have hve : Hid (Via (rtF s m en) d ek) := hve'
          clear R hw7 hve' hqe
          have hz_e : ek.size = sz := by rw [HZ.out]; exact hve.out.1
          have hoke : Hid (OkD N ek) := okD_sm HOK.out (rt_sm hve.out hs3 hs4 (by rw [← HZ.out]; omega)) (by rw [← HZ.out]; omega)
          have hSp : Hid (Spl ks ek a s mid en b) := mrg_split HS1.out HS2'.out HPL.out (by rw [← HZ.out]; exact hb) hs2 hs3 hs4 hs5 HMM.out hAB.out.1 hAB.out.2 hve.out
          by_cases c1 : a < s ∧ s < mid
          · have S1 := ih a s mid ek we (by omega) c1.1 c1.2 (by omega) hz_e (by rw [HWe.out]; exact holds_putRow eI _ blk off d _ (holds_ahead _ _ _ _ _ _ hH) (by rw [hz_e]; exact HZ.out)) (al_pr HA.out n1 n2 HWe.out) hoke.out hSp.out.s1 hSp.out.s2 hSp.out.p1
            have u1 : (a : Int) < (s : Int) := by omega
            have u2 : (s : Int) < (mid : Int) := by omega
            go_wp2_with (fail)
            all_goals (
              refine S1.mono ?_
              rintro e w8 ⟨rfl, q8, e8, hw8, sm8, so8⟩
              have HE8 : Hid (w8 = putRow eI (Sort.ahead w (qe + q8)) blk off e8 ∧ Sm a mid ek e8 ∧ So ks e8 a mid) := ⟨by rw [hw8, pr_pr HWe.out sm8.1], sm8, so8⟩
              clear S1 hw8 sm8 so8
              have hz_e1 : e8.size = sz := (show Sm a mid ek e8 from HE8.out.2.1).1.trans hz_e
              by_cases c2 : mid < en ∧ en < b
              · have S2 := ih mid en b e8 w8 (by omega) c2.1 c2.2 hb hz_e1 (by rw [HE8.out.1]; exact holds_putRow eI _ blk off d _ (holds_ahead _ _ _ _ _ _ hH) (by rw [hz_e1]; exact HZ.out)) (al_pr HA.out n1 n2 HE8.out.1) (okD_sm hoke.out (show Sm a mid ek e8 from HE8.out.2.1) (by rw [hz_e]; omega)) (so_sm (show Sm a mid ek e8 from HE8.out.2.1) hSp.out.s3 (.inr (Nat.le_refl _))) (so_sm (show Sm a mid ek e8 from HE8.out.2.1) hSp.out.s4 (.inr (by omega))) (pl_sm (show Sm a mid ek e8 from HE8.out.2.1) hSp.out.p2 (.inr (Nat.le_refl _)))
                have t1 : (mid : Int) < (en : Int) := by omega
                have t2 : (en : Int) < (b : Int) := by omega
                go_wp2_with (fail)
                all_goals (
                  refine S2.mono ?_
                  rintro e w9 ⟨rfl, q9, e9, hw9, sm9, so9⟩
                  have HE9 : Hid (w9 = putRow eI (Sort.ahead w ((qe + q8) + q9)) blk off e9 ∧ Sm mid b e8 e9 ∧ So ks e9 mid b) := ⟨by rw [hw9, pr_pr HE8.out.1 sm9.1], sm9, so9⟩
                  clear S2 hw9 sm9 so9
                  go_wp2_with (fail)
                  all_goals (
                    go_end0
                    exact ⟨rfl, (qe + q8) + q9, e9, HE9.out.1, sm_trans (sm_trans (sm_mono (rt_sm hve.out hs3 hs4 (by rw [← HZ.out]; omega)) hs2 hs5) (sm_mono HE8.out.2.1 (Nat.le_refl _) (by omega))) (sm_mono HE9.out.2.1 (by omega) (Nat.le_refl _)), so_join HE8.out.2.1 HE8.out.2.2 HE9.out.2.1 HE9.out.2.2 hSp.out.cr (by omega) (by omega)⟩))
              · have HS2 : Hid (So ks e8 mid b) := so_cat (by omega) (so_sm (show Sm a mid ek e8 from HE8.out.2.1) hSp.out.s3 (.inr (Nat.le_refl _))) (so_sm (show Sm a mid ek e8 from HE8.out.2.1) hSp.out.s4 (.inr (by omega))) (by omega) (by omega)
                by_cases t1 : (mid : Int) < (en : Int)
                · have t2 : ¬ (en : Int) < (b : Int) := by omega
                  go_wp2_with (fail)
                  all_goals (
                    go_end0
                    exact ⟨rfl, (qe + q8), e8, HE8.out.1, sm_trans (sm_trans (sm_mono (rt_sm hve.out hs3 hs4 (by rw [← HZ.out]; omega)) hs2 hs5) (sm_mono HE8.out.2.1 (Nat.le_refl _) (by omega))) (sm_mono (sm_refl mid b _) (by omega) (Nat.le_refl _)), so_join HE8.out.2.1 HE8.out.2.2 (sm_refl mid b _) HS2.out hSp.out.cr (by omega) (by omega)⟩)
                · go_wp2_with (fail)
                  all_goals (
                    go_end0
                    exact ⟨rfl, (qe + q8), e8, HE8.out.1, sm_trans (sm_trans (sm_mono (rt_sm hve.out hs3 hs4 (by rw [← HZ.out]; omega)) hs2 hs5) (sm_mono HE8.out.2.1 (Nat.le_refl _) (by omega))) (sm_mono (sm_refl mid b _) (by omega) (Nat.le_refl _)), so_join HE8.out.2.1 HE8.out.2.2 (sm_refl mid b _) HS2.out hSp.out.cr (by omega) (by omega)⟩))
          · have HS1' : Hid (So ks ek a mid) := so_cat (by omega) hSp.out.s1 hSp.out.s2 (by omega) (by omega)
            by_cases u1 : (a : Int) < (s : Int)
            · have u2 : ¬ (s : Int) < (mid : Int) := by omega
              have hz_e1 : ek.size = sz := (show Sm a mid ek ek from (sm_refl a mid ek)).1.trans hz_e
              by_cases c2 : mid < en ∧ en < b
              · have S2 := ih mid en b ek we (by omega) c2.1 c2.2 hb hz_e1 (by rw [HWe.out]; exact holds_putRow eI _ blk off d _ (holds_ahead _ _ _ _ _ _ hH) (by rw [hz_e1]; exact HZ.out)) (al_pr HA.out n1 n2 HWe.out) (okD_sm hoke.out (show Sm a mid ek ek from (sm_refl a mid ek)) (by rw [hz_e]; omega)) (so_sm (show Sm a mid ek ek from (sm_refl a mid ek)) hSp.out.s3 (.inr (Nat.le_refl _))) (so_sm (show Sm a mid ek ek from (sm_refl a mid ek)) hSp.out.s4 (.inr (by omega))) (pl_sm (show Sm a mid ek ek from (sm_refl a mid ek)) hSp.out.p2 (.inr (Nat.le_refl _)))
                have t1 : (mid : Int) < (en : Int) := by omega
                have t2 : (en : Int) < (b : Int) := by omega
                go_wp2_with (fail)
                all_goals (
                  refine S2.mono ?_
                  rintro e w9 ⟨rfl, q9, e9, hw9, sm9, so9⟩
                  have HE9 : Hid (w9 = putRow eI (Sort.ahead w (qe + q9)) blk off e9 ∧ Sm mid b ek e9 ∧ So ks e9 mid b) := ⟨by rw [hw9, pr_pr HWe.out sm9.1], sm9, so9⟩
                  clear S2 hw9 sm9 so9
                  go_wp2_with (fail)
                  all_goals (
                    go_end0
                    exact ⟨rfl, qe + q9, e9, HE9.out.1, sm_trans (sm_trans (sm_mono (rt_sm hve.out hs3 hs4 (by rw [← HZ.out]; omega)) hs2 hs5) (sm_mono (sm_refl a mid ek) (Nat.le_refl _) (by omega))) (sm_mono HE9.out.2.1 (by omega) (Nat.le_refl _)), so_join (sm_refl a mid ek) HS1'.out HE9.out.2.1 HE9.out.2.2 hSp.out.cr (by omega) (by omega)⟩))
              · have HS2 : Hid (So ks ek mid b) := so_cat (by omega) (so_sm (show Sm a mid ek ek from (sm_refl a mid ek)) hSp.out.s3 (.inr (Nat.le_refl _))) (so_sm (show Sm a mid ek ek from (sm_refl a mid ek)) hSp.out.s4 (.inr (by omega))) (by omega) (by omega)
                by_cases t1 : (mid : Int) < (en : Int)
                · have t2 : ¬ (en : Int) < (b : Int) := by omega
                  go_wp2_with (fail)
                  all_goals (
                    go_end0
                    exact ⟨rfl, qe, ek, HWe.out, sm_trans (sm_trans (sm_mono (rt_sm hve.out hs3 hs4 (by rw [← HZ.out]; omega)) hs2 hs5) (sm_mono (sm_refl a mid ek) (Nat.le_refl _) (by omega))) (sm_mono (sm_refl mid b _) (by omega) (Nat.le_refl _)), so_join (sm_refl a mid ek) HS1'.out (sm_refl mid b _) HS2.out hSp.out.cr (by omega) (by omega)⟩)
                · go_wp2_with (fail)
                  all_goals (
                    go_end0
                    exact ⟨rfl, qe, ek, HWe.out, sm_trans (sm_trans (sm_mono (rt_sm hve.out hs3 hs4 (by rw [← HZ.out]; omega)) hs2 hs5) (sm_mono (sm_refl a mid ek) (Nat.le_refl _) (by omega))) (sm_mono (sm_refl mid b _) (by omega) (Nat.le_refl _)), so_join (sm_refl a mid ek) HS1'.out (sm_refl mid b _) HS2.out hSp.out.cr (by omega) (by omega)⟩)
            · skip
              have hz_e1 : ek.size = sz := (show Sm a mid ek ek from (sm_refl a mid ek)).1.trans hz_e
              by_cases c2 : mid < en ∧ en < b
              · have S2 := ih mid en b ek we (by omega) c2.1 c2.2 hb hz_e1 (by rw [HWe.out]; exact holds_putRow eI _ blk off d _ (holds_ahead _ _ _ _ _ _ hH) (by rw [hz_e1]; exact HZ.out)) (al_pr HA.out n1 n2 HWe.out) (okD_sm hoke.out (show Sm a mid ek ek from (sm_refl a mid ek)) (by rw [hz_e]; omega)) (so_sm (show Sm a mid ek ek from (sm_refl a mid ek)) hSp.out.s3 (.inr (Nat.le_refl _))) (so_sm (show Sm a mid ek ek from (sm_refl a mid ek)) hSp.out.s4 (.inr (by omega))) (pl_sm (show Sm a mid ek ek from (sm_refl a mid ek)) hSp.out.p2 (.inr (Nat.le_refl _)))
                have t1 : (mid : Int) < (en : Int) := by omega
                have t2 : (en : Int) < (b : Int) := by omega
                go_wp2_with (fail)
                all_goals (
                  refine S2.mono ?_
                  rintro e w9 ⟨rfl, q9, e9, hw9, sm9, so9⟩
                  have HE9 : Hid (w9 = putRow eI (Sort.ahead w (qe + q9)) blk off e9 ∧ Sm mid b ek e9 ∧ So ks e9 mid b) := ⟨by rw [hw9, pr_pr HWe.out sm9.1], sm9, so9⟩
                  clear S2 hw9 sm9 so9
                  go_wp2_with (fail)
                  all_goals (
                    go_end0
                    exact ⟨rfl, qe + q9, e9, HE9.out.1, sm_trans (sm_trans (sm_mono (rt_sm hve.out hs3 hs4 (by rw [← HZ.out]; omega)) hs2 hs5) (sm_mono (sm_refl a mid ek) (Nat.le_refl _) (by omega))) (sm_mono HE9.out.2.1 (by omega) (Nat.le_refl _)), so_join (sm_refl a mid ek) HS1'.out HE9.out.2.1 HE9.out.2.2 hSp.out.cr (by omega) (by omega)⟩))
              · have HS2 : Hid (So ks ek mid b) := so_cat (by omega) (so_sm (show Sm a mid ek ek from (sm_refl a mid ek)) hSp.out.s3 (.inr (Nat.le_refl _))) (so_sm (show Sm a mid ek ek from (sm_refl a mid ek)) hSp.out.s4 (.inr (by omega))) (by omega) (by omega)
                by_cases t1 : (mid : Int) < (en : Int)
                · have t2 : ¬ (en : Int) < (b : Int) := by omega
                  go_wp2_with (fail)
                  all_goals (
                    go_end0
                    exact ⟨rfl, qe, ek, HWe.out, sm_trans (sm_trans (sm_mono (rt_sm hve.out hs3 hs4 (by rw [← HZ.out]; omega)) hs2 hs5) (sm_mono (sm_refl a mid ek) (Nat.le_refl _) (by omega))) (sm_mono (sm_refl mid b _) (by omega) (Nat.le_refl _)), so_join (sm_refl a mid ek) HS1'.out (sm_refl mid b _) HS2.out hSp.out.cr (by omega) (by omega)⟩)
                · go_wp2_with (fail)
                  all_goals (
                    go_end0
                    exact ⟨rfl, qe, ek, HWe.out, sm_trans (sm_trans (sm_mono (rt_sm hve.out hs3 hs4 (by rw [← HZ.out]; omega)) hs2 hs5) (sm_mono (sm_refl a mid ek) (Nat.le_refl _) (by omega))) (sm_mono (sm_refl mid b _) (by omega) (Nat.le_refl _)), so_join (sm_refl a mid ek) HS1'.out (sm_refl mid b _) HS2.out hSp.out.cr (by omega) (by omega)⟩)
        · obtain ⟨ek, hek⟩ : ∃ ek, ek = d := ⟨_, rfl⟩
          obtain ⟨we, hwe⟩ : ∃ we, we = wr := ⟨_, rfl⟩
          obtain ⟨qe, hqe⟩ : ∃ qe, qe = q := ⟨_, rfl⟩
          have HWe : Hid (we = putRow eI (Sort.ahead w qe) blk off ek) := by rw [hwe, hqe, hek]; exact H0.out
          have hve : Hid (Via (rtF s m en) d ek) := by rw [hek]; exact rt_id d hs3 hs4 c0
          rw [← hwe]
          clear hek hwe hqe
          by_cases v1 : (s : Int) < (m : Int)
          · have v2 : ¬ (m : Int) < (en : Int) := by omega
            have hz_e : ek.size = sz := by rw [HZ.out]; exact hve.out.1
            have hoke : Hid (OkD N ek) := okD_sm HOK.out (rt_sm hve.out hs3 hs4 (by rw [← HZ.out]; omega)) (by rw [← HZ.out]; omega)
            have hSp : Hid (Spl ks ek a s mid en b) := mrg_split HS1.out HS2'.out HPL.out (by rw [← HZ.out]; exact hb) hs2 hs3 hs4 hs5 HMM.out hAB.out.1 hAB.out.2 hve.out
            by_cases c1 : a < s ∧ s < mid
            · have S1 := ih a s mid ek we (by omega) c1.1 c1.2 (by omega) hz_e (by rw [HWe.out]; exact holds_putRow eI _ blk off d _ (holds_ahead _ _ _ _ _ _ hH) (by rw [hz_e]; exact HZ.out)) (al_pr HA.out n1 n2 HWe.out) hoke.out hSp.out.s1 hSp.out.s2 hSp.out.p1
              have u1 : (a : Int) < (s : Int) := by omega
              have u2 : (s : Int) < (mid : Int) := by omega
              go_wp2_with (fail)
              all_goals (
                refine S1.mono ?_
                rintro e w8 ⟨rfl, q8, e8, hw8, sm8, so8⟩
                have HE8 : Hid (w8 = putRow eI (Sort.ahead w (qe + q8)) blk off e8 ∧ Sm a mid ek e8 ∧ So ks e8 a mid) := ⟨by rw [hw8, pr_pr HWe.out sm8.1], sm8, so8⟩
                clear S1 hw8 sm8 so8
                have hz_e1 : e8.size = sz := (show Sm a mid ek e8 from HE8.out.2.1).1.trans hz_e
                by_cases c2 : mid < en ∧ en < b
                · have S2 := ih mid en b e8 w8 (by omega) c2.1 c2.2 hb hz_e1 (by rw [HE8.out.1]; exact holds_putRow eI _ blk off d _ (holds_ahead _ _ _ _ _ _ hH) (by rw [hz_e1]; exact HZ.out)) (al_pr HA.out n1 n2 HE8.out.1) (okD_sm hoke.out (show Sm a mid ek e8 from HE8.out.2.1) (by rw [hz_e]; omega)) (so_sm (show Sm a mid ek e8 from HE8.out.2.1) hSp.out.s3 (.inr (Nat.le_refl _))) (so_sm (show Sm a mid ek e8 from HE8.out.2.1) hSp.out.s4 (.inr (by omega))) (pl_sm (show Sm a mid ek e8 from HE8.out.2.1) hSp.out.p2 (.inr (Nat.le_refl _)))
                  have t1 : (mid : Int) < (en : Int) := by omega
                  have t2 : (en : Int) < (b : Int) := by omega
                  go_wp2_with (fail)
                  all_goals (
                    refine S2.mono ?_
                    rintro e w9 ⟨rfl, q9, e9, hw9, sm9, so9⟩
                    have HE9 : Hid (w9 = putRow eI (Sort.ahead w ((qe + q8) + q9)) blk off e9 ∧ Sm mid b e8 e9 ∧ So ks e9 mid b) := ⟨by rw [hw9, pr_pr HE8.out.1 sm9.1], sm9, so9⟩
                    clear S2 hw9 sm9 so9
                    go_wp2_with (fail)
                    all_goals (
                      go_end0
                      exact ⟨rfl, (qe + q8) + q9, e9, HE9.out.1, sm_trans (sm_trans (sm_mono (rt_sm hve.out hs3 hs4 (by rw [← HZ.out]; omega)) hs2 hs5) (sm_mono HE8.out.2.1 (Nat.le_refl _) (by omega))) (sm_mono HE9.out.2.1 (by omega) (Nat.le_refl _)), so_join HE8.out.2.1 HE8.out.2.2 HE9.out.2.1 HE9.out.2.2 hSp.out.cr (by omega) (by omega)⟩))
                · have HS2 : Hid (So ks e8 mid b) := so_cat (by omega) (so_sm (show Sm a mid ek e8 from HE8.out.2.1) hSp.out.s3 (.inr (Nat.le_refl _))) (so_sm (show Sm a mid ek e8 from HE8.out.2.1) hSp.out.s4 (.inr (by omega))) (by omega) (by omega)
                  by_cases t1 : (mid : Int) < (en : Int)
                  · have t2 : ¬ (en : Int) < (b : Int) := by omega
                    go_wp2_with (fail)
                    all_goals (
                      go_end0
                      exact ⟨rfl, (qe + q8), e8, HE8.out.1, sm_trans (sm_trans (sm_mono (rt_sm hve.out hs3 hs4 (by rw [← HZ.out]; omega)) hs2 hs5) (sm_mono HE8.out.2.1 (Nat.le_refl _) (by omega))) (sm_mono (sm_refl mid b _) (by omega) (Nat.le_refl _)), so_join HE8.out.2.1 HE8.out.2.2 (sm_refl mid b _) HS2.out hSp.out.cr (by omega) (by omega)⟩)
                  · go_wp2_with (fail)
                    all_goals (
                      go_end0
                      exact ⟨rfl, (qe + q8), e8, HE8.out.1, sm_trans (sm_trans (sm_mono (rt_sm hve.out hs3 hs4 (by rw [← HZ.out]; omega)) hs2 hs5) (sm_mono HE8.out.2.1 (Nat.le_refl _) (by omega))) (sm_mono (sm_refl mid b _) (by omega) (Nat.le_refl _)), so_join HE8.out.2.1 HE8.out.2.2 (sm_refl mid b _) HS2.out hSp.out.cr (by omega) (by omega)⟩))
            · have HS1' : Hid (So ks ek a mid) := so_cat (by omega) hSp.out.s1 hSp.out.s2 (by omega) (by omega)
              by_cases u1 : (a : Int) < (s : Int)
              · have u2 : ¬ (s : Int) < (mid : Int) := by omega
                have hz_e1 : ek.size = sz := (show Sm a mid ek ek from (sm_refl a mid ek)).1.trans hz_e
                by_cases c2 : mid < en ∧ en < b
                · have S2 := ih mid en b ek we (by omega) c2.1 c2.2 hb hz_e1 (by rw [HWe.out]; exact holds_putRow eI _ blk off d _ (holds_ahead _ _ _ _ _ _ hH) (by rw [hz_e1]; exact HZ.out)) (al_pr HA.out n1 n2 HWe.out) (okD_sm hoke.out (show Sm a mid ek ek from (sm_refl a mid ek)) (by rw [hz_e]; omega)) (so_sm (show Sm a mid ek ek from (sm_refl a mid ek)) hSp.out.s3 (.inr (Nat.le_refl _))) (so_sm (show Sm a mid ek ek from (sm_refl a mid ek)) hSp.out.s4 (.inr (by omega))) (pl_sm (show Sm a mid ek ek from (sm_refl a mid ek)) hSp.out.p2 (.inr (Nat.le_refl _)))
                  have t1 : (mid : Int) < (en : Int) := by omega
                  have t2 : (en : Int) < (b : Int) := by omega
                  go_wp2_with (fail)
                  all_goals (
                    refine S2.mono ?_
                    rintro e w9 ⟨rfl, q9, e9, hw9, sm9, so9⟩
                    have HE9 : Hid (w9 = putRow eI (Sort.ahead w (qe + q9)) blk off e9 ∧ Sm mid b ek e9 ∧ So ks e9 mid b) := ⟨by rw [hw9, pr_pr HWe.out sm9.1], sm9, so9⟩
                    clear S2 hw9 sm9 so9
                    go_wp2_with (fail)
                    all_goals (
                      go_end0
                      exact ⟨rfl, qe + q9, e9, HE9.out.1, sm_trans (sm_trans (sm_mono (rt_sm hve.out hs3 hs4 (by rw [← HZ.out]; omega)) hs2 hs5) (sm_mono (sm_refl a mid ek) (Nat.le_refl _) (by omega))) (sm_mono HE9.out.2.1 (by omega) (Nat.le_refl _)), so_join (sm_refl a mid ek) HS1'.out HE9.out.2.1 HE9.out.2.2 hSp.out.cr (by omega) (by omega)⟩))
                · have HS2 : Hid (So ks ek mid b) := so_cat (by omega) (so_sm (show Sm a mid ek ek from (sm_refl a mid ek)) hSp.out.s3 (.inr (Nat.le_refl _))) (so_sm (show Sm a mid ek ek from (sm_refl a mid ek)) hSp.out.s4 (.inr (by omega))) (by omega) (by omega)
                  by_cases t1 : (mid : Int) < (en : Int)
                  · have t2 : ¬ (en : Int) < (b : Int) := by omega
                    go_wp2_with (fail)
                    all_goals (
                      go_end0
                      exact ⟨rfl, qe, ek, HWe.out, sm_trans (sm_trans (sm_mono (rt_sm hve.out hs3 hs4 (by rw [← HZ.out]; omega)) hs2 hs5) (sm_mono (sm_refl a mid ek) (Nat.le_refl _) (by omega))) (sm_mono (sm_refl mid b _) (by omega) (Nat.le_refl _)), so_join (sm_refl a mid ek) HS1'.out (sm_refl mid b _) HS2.out hSp.out.cr (by omega) (by omega)⟩)
                  · go_wp2_with (fail)
                    all_goals (
                      go_end0
                      exact ⟨rfl, qe, ek, HWe.out, sm_trans (sm_trans (sm_mono (rt_sm hve.out hs3 hs4 (by rw [← HZ.out]; omega)) hs2 hs5) (sm_mono (sm_refl a mid ek) (Nat.le_refl _) (by omega))) (sm_mono (sm_refl mid b _) (by omega) (Nat.le_refl _)), so_join (sm_refl a mid ek) HS1'.out (sm_refl mid b _) HS2.out hSp.out.cr (by omega) (by omega)⟩)
              · skip
                have hz_e1 : ek.size = sz := (show Sm a mid ek ek from (sm_refl a mid ek)).1.trans hz_e
                by_cases c2 : mid < en ∧ en < b
                · have S2 := ih mid en b ek we (by omega) c2.1 c2.2 hb hz_e1 (by rw [HWe.out]; exact holds_putRow eI _ blk off d _ (holds_ahead _ _ _ _ _ _ hH) (by rw [hz_e1]; exact HZ.out)) (al_pr HA.out n1 n2 HWe.out) (okD_sm hoke.out (show Sm a mid ek ek from (sm_refl a mid ek)) (by rw [hz_e]; omega)) (so_sm (show Sm a mid ek ek from (sm_refl a mid ek)) hSp.out.s3 (.inr (Nat.le_refl _))) (so_sm (show Sm a mid ek ek from (sm_refl a mid ek)) hSp.out.s4 (.inr (by omega))) (pl_sm (show Sm a mid ek ek from (sm_refl a mid ek)) hSp.out.p2 (.inr (Nat.le_refl _)))
                  have t1 : (mid : Int) < (en : Int) := by omega
                  have t2 : (en : Int) < (b : Int) := by omega
                  go_wp2_with (fail)
                  all_goals (
                    refine S2.mono ?_
                    rintro e w9 ⟨rfl, q9, e9, hw9, sm9, so9⟩
                    have HE9 : Hid (w9 = putRow eI (Sort.ahead w (qe + q9)) blk off e9 ∧ Sm mid b ek e9 ∧ So ks e9 mid b) := ⟨by rw [hw9, pr_pr HWe.out sm9.1], sm9, so9⟩
                    clear S2 hw9 sm9 so9
                    go_wp2_with (fail)
                    all_goals (
                      go_end0
                      exact ⟨rfl, qe + q9, e9, HE9.out.1, sm_trans (sm_trans (sm_mono (rt_sm hve.out hs3 hs4 (by rw [← HZ.out]; omega)) hs2 hs5) (sm_mono (sm_refl a mid ek) (Nat.le_refl _) (by omega))) (sm_mono HE9.out.2.1 (by omega) (Nat.le_refl _)), so_join (sm_refl a mid ek) HS1'.out HE9.out.2.1 HE9.out.2.2 hSp.out.cr (by omega) (by omega)⟩))
                · have HS2 : Hid (So ks ek mid b) := so_cat (by omega) (so_sm (show Sm a mid ek ek from (sm_refl a mid ek)) hSp.out.s3 (.inr (Nat.le_refl _))) (so_sm (show Sm a mid ek ek from (sm_refl a mid ek)) hSp.out.s4 (.inr (by omega))) (by omega) (by omega)
                  by_cases t1 : (mid : Int) < (en : Int)
                  · have t2 : ¬ (en : Int) < (b : Int) := by omega
                    go_wp2_with (fail)
                    all_goals (
                      go_end0
                      exact ⟨rfl, qe, ek, HWe.out, sm_trans (sm_trans (sm_mono (rt_sm hve.out hs3 hs4 (by rw [← HZ.out]; omega)) hs2 hs5) (sm_mono (sm_refl a mid ek) (Nat.le_refl _) (by omega))) (sm_mono (sm_refl mid b _) (by omega) (Nat.le_refl _)), so_join (sm_refl a mid ek) HS1'.out (sm_refl mid b _) HS2.out hSp.out.cr (by omega) (by omega)⟩)
                  · go_wp2_with (fail)
                    all_goals (
                      go_end0
                      exact ⟨rfl, qe, ek, HWe.out, sm_trans (sm_trans (sm_mono (rt_sm hve.out hs3 hs4 (by rw [← HZ.out]; omega)) hs2 hs5) (sm_mono (sm_refl a mid ek) (Nat.le_refl _) (by omega))) (sm_mono (sm_refl mid b _) (by omega) (Nat.le_refl _)), so_join (sm_refl a mid ek) HS1'.out (sm_refl mid b _) HS2.out hSp.out.cr (by omega) (by omega)⟩)
          · skip
            have hz_e : ek.size = sz := by rw [HZ.out]; exact hve.out.1
            have hoke : Hid (OkD N ek) := okD_sm HOK.out (rt_sm hve.out hs3 hs4 (by rw [← HZ.out]; omega)) (by rw [← HZ.out]; omega)
            have hSp : Hid (Spl ks ek a s mid en b) := mrg_split HS1.out HS2'.out HPL.out (by rw [← HZ.out]; exact hb) hs2 hs3 hs4 hs5 HMM.out hAB.out.1 hAB.out.2 hve.out
            by_cases c1 : a < s ∧ s < mid
            · have S1 := ih a s mid ek we (by omega) c1.1 c1.2 (by omega) hz_e (by rw [HWe.out]; exact holds_putRow eI _ blk off d _ (holds_ahead _ _ _ _ _ _ hH) (by rw [hz_e]; exact HZ.out)) (al_pr HA.out n1 n2 HWe.out) hoke.out hSp.out.s1 hSp.out.s2 hSp.out.p1
              have u1 : (a : Int) < (s : Int) := by omega
              have u2 : (s : Int) < (mid : Int) := by omega
              go_wp2_with (fail)
              all_goals (
                refine S1.mono ?_
                rintro e w8 ⟨rfl, q8, e8, hw8, sm8, so8⟩
                have HE8 : Hid (w8 = putRow eI (Sort.ahead w (qe + q8)) blk off e8 ∧ Sm a mid ek e8 ∧ So ks e8 a mid) := ⟨by rw [hw8, pr_pr HWe.out sm8.1], sm8, so8⟩
                clear S1 hw8 sm8 so8
                have hz_e1 : e8.size = sz := (show Sm a mid ek e8 from HE8.out.2.1).1.trans hz_e
                by_cases c2 : mid < en ∧ en < b
                · have S2 := ih mid en b e8 w8 (by omega) c2.1 c2.2 hb hz_e1 (by rw [HE8.out.1]; exact holds_putRow eI _ blk off d _ (holds_ahead _ _ _ _ _ _ hH) (by rw [hz_e1]; exact HZ.out)) (al_pr HA.out n1 n2 HE8.out.1) (okD_sm hoke.out (show Sm a mid ek e8 from HE8.out.2.1) (by rw [hz_e]; omega)) (so_sm (show Sm a mid ek e8 from HE8.out.2.1) hSp.out.s3 (.inr (Nat.le_refl _))) (so_sm (show Sm a mid ek e8 from HE8.out.2.1) hSp.out.s4 (.inr (by omega))) (pl_sm (show Sm a mid ek e8 from HE8.out.2.1) hSp.out.p2 (.inr (Nat.le_refl _)))
                  have t1 : (mid : Int) < (en : Int) := by omega
                  have t2 : (en : Int) < (b : Int) := by omega
                  go_wp2_with (fail)
                  all_goals (
                    refine S2.mono ?_
                    rintro e w9 ⟨rfl, q9, e9, hw9, sm9, so9⟩
                    have HE9 : Hid (w9 = putRow eI (Sort.ahead w ((qe + q8) + q9)) blk off e9 ∧ Sm mid b e8 e9 ∧ So ks e9 mid b) := ⟨by rw [hw9, pr_pr HE8.out.1 sm9.1], sm9, so9⟩
                    clear S2 hw9 sm9 so9
                    go_wp2_with (fail)
                    all_goals (
                      go_end0
                      exact ⟨rfl, (qe + q8) + q9, e9, HE9.out.1, sm_trans (sm_trans (sm_mono (rt_sm hve.out hs3 hs4 (by rw [← HZ.out]; omega)) hs2 hs5) (sm_mono HE8.out.2.1 (Nat.le_refl _) (by omega))) (sm_mono HE9.out.2.1 (by omega) (Nat.le_refl _)), so_join HE8.out.2.1 HE8.out.2.2 HE9.out.2.1 HE9.out.2.2 hSp.out.cr (by omega) (by omega)⟩))
                · have HS2 : Hid (So ks e8 mid b) := so_cat (by omega) (so_sm (show Sm a mid ek e8 from HE8.out.2.1) hSp.out.s3 (.inr (Nat.le_refl _))) (so_sm (show Sm a mid ek e8 from HE8.out.2.1) hSp.out.s4 (.inr (by omega))) (by omega) (by omega)
                  by_cases t1 : (mid : Int) < (en : Int)
                  · have t2 : ¬ (en : Int) < (b : Int) := by omega
                    go_wp2_with (fail)
                    all_goals (
                      go_end0
                      exact ⟨rfl, (qe + q8), e8, HE8.out.1, sm_trans (sm_trans (sm_mono (rt_sm hve.out hs3 hs4 (by rw [← HZ.out]; omega)) hs2 hs5) (sm_mono HE8.out.2.1 (Nat.le_refl _) (by omega))) (sm_mono (sm_refl mid b _) (by omega) (Nat.le_refl _)), so_join HE8.out.2.1 HE8.out.2.2 (sm_refl mid b _) HS2.out hSp.out.cr (by omega) (by omega)⟩)
                  · go_wp2_with (fail)
                    all_goals (
                      go_end0
                      exact ⟨rfl, (qe + q8), e8, HE8.out.1, sm_trans (sm_trans (sm_mono (rt_sm hve.out hs3 hs4 (by rw [← HZ.out]; omega)) hs2 hs5) (sm_mono HE8.out.2.1 (Nat.le_refl _) (by omega))) (sm_mono (sm_refl mid b _) (by omega) (Nat.le_refl _)), so_join HE8.out.2.1 HE8.out.2.2 (sm_refl mid b _) HS2.out hSp.out.cr (by omega) (by omega)⟩))
            · have HS1' : Hid (So ks ek a mid) := so_cat (by omega) hSp.out.s1 hSp.out.s2 (by omega) (by omega)
              by_cases u1 : (a : Int) < (s : Int)
              · have u2 : ¬ (s : Int) < (mid : Int) := by omega
                have hz_e1 : ek.size = sz := (show Sm a mid ek ek from (sm_refl a mid ek)).1.trans hz_e
                by_cases c2 : mid < en ∧ en < b
                · have S2 := ih mid en b ek we (by omega) c2.1 c2.2 hb hz_e1 (by rw [HWe.out]; exact holds_putRow eI _ blk off d _ (holds_ahead _ _ _ _ _ _ hH) (by rw [hz_e1]; exact HZ.out)) (al_pr HA.out n1 n2 HWe.out) (okD_sm hoke.out (show Sm a mid ek ek from (sm_refl a mid ek)) (by rw [hz_e]; omega)) (so_sm (show Sm a mid ek ek from (sm_refl a mid ek)) hSp.out.s3 (.inr (Nat.le_refl _))) (so_sm (show Sm a mid ek ek from (sm_refl a mid ek)) hSp.out.s4 (.inr (by omega))) (pl_sm (show Sm a mid ek ek from (sm_refl a mid ek)) hSp.out.p2 (.inr (Nat.le_refl _)))
                  have t1 : (mid : Int) < (en : Int) := by omega
                  have t2 : (en : Int) < (b : Int) := by omega
                  go_wp2_with (fail)
                  all_goals (
                    refine S2.mono ?_
                    rintro e w9 ⟨rfl, q9, e9, hw9, sm9, so9⟩
                    have HE9 : Hid (w9 = putRow eI (Sort.ahead w (qe + q9)) blk off e9 ∧ Sm mid b ek e9 ∧ So ks e9 mid b) := ⟨by rw [hw9, pr_pr HWe.out sm9.1], sm9, so9⟩
                    clear S2 hw9 sm9 so9
                    go_wp2_with (fail)
                    all_goals (
                      go_end0
                      exact ⟨rfl, qe + q9, e9, HE9.out.1, sm_trans (sm_trans (sm_mono (rt_sm hve.out hs3 hs4 (by rw [← HZ.out]; omega)) hs2 hs5) (sm_mono (sm_refl a mid ek) (Nat.le_refl _) (by omega))) (sm_mono HE9.out.2.1 (by omega) (Nat.le_refl _)), so_join (sm_refl a mid ek) HS1'.out HE9.out.2.1 HE9.out.2.2 hSp.out.cr (by omega) (by omega)⟩))
                · have HS2 : Hid (So ks ek mid b) := so_cat (by omega) (so_sm (show Sm a mid ek ek from (sm_refl a mid ek)) hSp.out.s3 (.inr (Nat.le_refl _))) (so_sm (show Sm a mid ek ek from (sm_refl a mid ek)) hSp.out.s4 (.inr (by omega))) (by omega) (by omega)
                  by_cases t1 : (mid : Int) < (en : Int)
                  · have t2 : ¬ (en : Int) < (b : Int) := by omega
                    go_wp2_with (fail)
                    all_goals (
                      go_end0
                      exact ⟨rfl, qe, ek, HWe.out, sm_trans (sm_trans (sm_mono (rt_sm hve.out hs3 hs4 (by rw [← HZ.out]; omega)) hs2 hs5) (sm_mono (sm_refl a mid ek) (Nat.le_refl _) (by omega))) (sm_mono (sm_refl mid b _) (by omega) (Nat.le_refl _)), so_join (sm_refl a mid ek) HS1'.out (sm_refl mid b _) HS2.out hSp.out.cr (by omega) (by omega)⟩)
                  · go_wp2_with (fail)
                    all_goals (
                      go_end0
                      exact ⟨rfl, qe, ek, HWe.out, sm_trans (sm_trans (sm_mono (rt_sm hve.out hs3 hs4 (by rw [← HZ.out]; omega)) hs2 hs5) (sm_mono (sm_refl a mid ek) (Nat.le_refl _) (by omega))) (sm_mono (sm_refl mid b _) (by omega) (Nat.le_refl _)), so_join (sm_refl a mid ek) HS1'.out (sm_refl mid b _) HS2.out hSp.out.cr (by omega) (by omega)⟩)
              · skip
                have hz_e1 : ek.size = sz := (show Sm a mid ek ek from (sm_refl a mid ek)).1.trans hz_e
                by_cases c2 : mid < en ∧ en < b
                · have S2 := ih mid en b ek we (by omega) c2.1 c2.2 hb hz_e1 (by rw [HWe.out]; exact holds_putRow eI _ blk off d _ (holds_ahead _ _ _ _ _ _ hH) (by rw [hz_e1]; exact HZ.out)) (al_pr HA.out n1 n2 HWe.out) (okD_sm hoke.out (show Sm a mid ek ek from (sm_refl a mid ek)) (by rw [hz_e]; omega)) (so_sm (show Sm a mid ek ek from (sm_refl a mid ek)) hSp.out.s3 (.inr (Nat.le_refl _))) (so_sm (show Sm a mid ek ek from (sm_refl a mid ek)) hSp.out.s4 (.inr (by omega))) (pl_sm (show Sm a mid ek ek from (sm_refl a mid ek)) hSp.out.p2 (.inr (Nat.le_refl _)))
                  have t1 : (mid : Int) < (en : Int) := by omega
                  have t2 : (en : Int) < (b : Int) := by omega
                  go_wp2_with (fail)
                  all_goals (
                    refine S2.mono ?_
                    rintro e w9 ⟨rfl, q9, e9, hw9, sm9, so9⟩
                    have HE9 : Hid (w9 = putRow eI (Sort.ahead w (qe + q9)) blk off e9 ∧ Sm mid b ek e9 ∧ So ks e9 mid b) := ⟨by rw [hw9, pr_pr HWe.out sm9.1], sm9, so9⟩
                    clear S2 hw9 sm9 so9
                    go_wp2_with (fail)
                    all_goals (
                      go_end0
                      exact ⟨rfl, qe + q9, e9, HE9.out.1, sm_trans (sm_trans (sm_mono (rt_sm hve.out hs3 hs4 (by rw [← HZ.out]; omega)) hs2 hs5) (sm_mono (sm_refl a mid ek) (Nat.le_refl _) (by omega))) (sm_mono HE9.out.2.1 (by omega) (Nat.le_refl _)), so_join (sm_refl a mid ek) HS1'.out HE9.out.2.1 HE9.out.2.2 hSp.out.cr (by omega) (by omega)⟩))
                · have HS2 : Hid (So ks ek mid b) := so_cat (by omega) (so_sm (show Sm a mid ek ek from (sm_refl a mid ek)) hSp.out.s3 (.inr (Nat.le_refl _))) (so_sm (show Sm a mid ek ek from (sm_refl a mid ek)) hSp.out.s4 (.inr (by omega))) (by omega) (by omega)
                  by_cases t1 : (mid : Int) < (en : Int)
                  · have t2 : ¬ (en : Int) < (b : Int) := by omega
                    go_wp2_with (fail)
                    all_goals (
                      go_end0
                      exact ⟨rfl, qe, ek, HWe.out, sm_trans (sm_trans (sm_mono (rt_sm hve.out hs3 hs4 (by rw [← HZ.out]; omega)) hs2 hs5) (sm_mono (sm_refl a mid ek) (Nat.le_refl _) (by omega))) (sm_mono (sm_refl mid b _) (by omega) (Nat.le_refl _)), so_join (sm_refl a mid ek) HS1'.out (sm_refl mid b _) HS2.out hSp.out.cr (by omega) (by omega)⟩)
                  · go_wp2_with (fail)
                    all_goals (
                      go_end0
                      exact ⟨rfl, qe, ek, HWe.out, sm_trans (sm_trans (sm_mono (rt_sm hve.out hs3 hs4 (by rw [← HZ.out]; omega)) hs2 hs5) (sm_mono (sm_refl a mid ek) (Nat.le_refl _) (by omega))) (sm_mono (sm_refl mid b _) (by omega) (Nat.le_refl _)), so_join (sm_refl a mid ek) HS1'.out (sm_refl mid b _) HS2.out hSp.out.cr (by omega) (by omega)⟩)
theorem symC (blk off cap AB AL N : Nat) (ks : Int → Int) (sz : Nat) (n1 : AB ≠ blk) (n2 : AL ≠ blk) (hN : N ≤ 1000000) (hsz : sz ≤ 1000000) : ∀ L, SymP blk off cap AB AL N ks sz L
  | 0 => fun a m b d w h => by omega
  | L + 1 => fun a m b d w h1 h2 h3 h4 h5 h6 h7 h8 h9 h10 h11 => by
    by_cases c1 : m = a + 1
    · subst c1
      have := sym_one blk off cap AB AL N ks sz n1 n2 hN hsz a b d w (by omega) h4 h5 h6 h7 h8 h10 h11
      rw [show ((a + 1 : Nat) : Int) = (a : Int) + 1 by omega]
      exact this
    · by_cases c2 : b = m + 1
      · subst c2
        have := sym_last blk off cap AB AL N ks sz n1 n2 hN hsz a m d w (by omega) h4 h5 h6 h7 h8 h9 h11
        rw [show ((m + 1 : Nat) : Int) = (m : Int) + 1 by omega]
        exact this
      · by_cases c3 : (a + b) / 2 < m
        · exact sym_genA blk off cap AB AL N ks sz n1 n2 hN hsz L (symC blk off cap AB AL N ks sz n1 n2 hN hsz L) a m b d w h1 (by omega) (by omega) c3 h4 h5 h6 h7 h8 h9 h10 h11
        · exact sym_genB blk off cap AB AL N ks sz n1 n2 hN hsz L (symC blk off cap AB AL N ks sz n1 n2 hN hsz L) a m b d w h1 (by omega) (by omega) c3 h4 h5 h6 h7 h8 h9 h10 h11
end Go.Proofs.Ytlfdlifmcabfjaa
