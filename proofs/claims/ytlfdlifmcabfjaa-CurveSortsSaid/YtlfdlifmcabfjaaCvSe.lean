/-
  The library's merge of two rising rows.
-/
import Derived.Test.YtlfdlifmcabfjaaCvSd
namespace Go.Proofs.Ytlfdlifmcabfjaa
open Go.RowKit Go.Sort
set_option linter.unusedVariables false
set_option linter.unusedSimpArgs false

theorem half (i j : Nat) : ((i : Int) + (j : Int)) / 2 = (((i + j) / 2 : Nat) : Int) := by omega
def SymP (blk off cap AB AL N : Nat) (ks : Int → Int) (sz : Nat) (L : Nat) : Prop := ∀ (a m b : Nat) (d : Array Int) (w : World), b - a ≤ L → a < m → m < b → b ≤ sz → d.size = sz → Holds eI w blk off d → Al w AB AL N ks → OkD N d → So ks d a m → So ks d m b → Pl d a m b →
    Calls Try.prog 49 #[.slice (some ⟨blk, off, none⟩) sz cap, .int .i64 a, .int .i64 m, .int .i64 b, .func (.func 37) #[] #[.pointer (some ⟨AB, 0, none⟩)]] w fun e w' => e = .returned (.tuple #[]) ∧ ∃ q d', w' = putRow eI (Sort.ahead w q) blk off d' ∧ Sm a b d d' ∧ So ks d' a b
set_option maxRecDepth 100000 in
set_option maxHeartbeats 8000000 in
theorem sym_one (blk off cap AB AL N : Nat) (ks : Int → Int) (sz : Nat) (n1 : AB ≠ blk) (n2 : AL ≠ blk) (hN : N ≤ 1000000) (hsz : sz ≤ 1000000) (a b : Nat) (d : Array Int) (w : World) (hab : a + 1 < b) (hb : b ≤ sz) (HZ' : d.size = sz) (hH : Holds eI w blk off d) (hA : Al w AB AL N ks) (hok : OkD N d) (ho : So ks d (a + 1) b) (hp : Pl d a (a + 1) b) :
    Calls Try.prog 49 #[.slice (some ⟨blk, off, none⟩) sz cap, .int .i64 a, .int .i64 ((a : Int) + 1), .int .i64 b, .func (.func 37) #[] #[.pointer (some ⟨AB, 0, none⟩)]] w fun e w' => e = .returned (.tuple #[]) ∧ ∃ q d', w' = putRow eI (Sort.ahead w q) blk off d' ∧ Sm a b d d' ∧ So ks d' a b := by
  have HZ : Hid (sz = d.size) := HZ'.symm
  have HA : Hid (Al w AB AL N ks) := hA
  have HOK : Hid (OkD N d) := hok
  have HSO : Hid (So ks d (a + 1) b) := ho
  have HPL : Hid (Pl d a (a + 1) b) := hp
  have ea : (a : Int) + 1 - (a : Int) = 1 := by omega
  clear hA hok ho hp HZ'
  go_enter Try.func49, Try.ntmps49
  go_wp2
  go_loopw [10, 11] (fun vi vj wr => ∃ (i j q : Nat), vi = .int .i64 (i : Int) ∧ vj = .int .i64 (j : Int) ∧ a + 1 ≤ i ∧ i ≤ j ∧ j ≤ b ∧ wr = putRow eI (Sort.ahead w q) blk off d ∧ Hid (∀ t, a + 1 ≤ t → t < i → Bf ks d[t]! d[a]!) ∧ Hid (∀ t, j ≤ t → t < b → ¬ Bf ks d[t]! d[a]!)) (fun vi vj _ => (intOf vj - intOf vi).toNat)
  case atStart => exact ⟨a + 1, b, 0, by go_num, rfl, Nat.le_refl _, by omega, Nat.le_refl _, (putRow_self _ _ _ _ _ hH).symm, fun t t1 t2 => by omega, fun t t1 t2 => by omega⟩
  case round =>
    obtain ⟨i, j, q, rfl, rfl, hai, hij, hjb, hw2, hl, hr⟩ := hrel
    by_cases hlt : i < j
    · obtain ⟨h, hh⟩ : ∃ h, h = (i + j) / 2 := ⟨_, rfl⟩
      have hhf := half i j
      rw [← hh] at hhf
      have hi1 : i ≤ h := by omega
      have hi2 : h < j := by omega
      have hlti : (i : Int) < (j : Int) := by omega
      clear hh
      obtain ⟨dk, hdk⟩ : ∃ dk, dk = d := ⟨_, rfl⟩
      rw [← hdk] at hw2
      have hsk : dk.size = sz := by rw [hdk]; exact HZ.out.symm
      have hAr := al_pr HA.out n1 n2 hw2
      obtain ⟨G, hG⟩ : ∃ G : Nat → Int, ∀ t, G t = dk[t]! := ⟨fun t => dk[t]!, fun _ => rfl⟩
      have hcw : ∀ t, t < sz → wr.cell? ⟨blk, off + t, none⟩ = some (.int .i64 (G t)) := fun t ht => by
        rw [hw2, hG]; exact cell?_putRow _ _ _ _ d dk (holds_ahead _ _ _ _ _ _ hH) (by rw [hsk]; exact HZ.out) t (by omega)
      have hfw : ∀ t, t < sz → wr.frozen? ⟨blk, off + t, none⟩ = false := fun t ht => by
        rw [hw2, frozen?_putRow]; exact ((holds_ahead _ _ q _ _ _ hH) t (by rw [← HZ.out]; exact ht)).2
      have HW : Hid (wr = putRow eI (Sort.ahead w q) blk off dk) := hw2
      have HG : Hid (∀ t, G t = dk[t]!) := hG
      clear hw2
      subst hdk
      have hL := fun n => lessQ hAr hN (G h) (G a) (by rw [HG.out]; exact HOK.out h (by omega)) (by rw [HG.out]; exact HOK.out a (by omega)) n
      have hlt2 : G a < G h := by rw [HG.out, HG.out]; exact HPL.out a h (Nat.le_refl _) (by omega) (by omega) (by omega)
      by_cases hc : cmpV (ks (G h)) (ks (G a)) < 0
      · have HB : Hid (Bf ks dk[h]! dk[a]!) := by rw [← HG.out, ← HG.out]; exact (bf_key hlt2).2 (cmpV_lt.1 hc)
        clear hG hlt2
        go_wp2
        go_quiet (first | (go_at_call 37; exact hL _))
        go_wp2
        refine ⟨⟨h + 1, j, q + nq, by go_num, rfl, by omega, by omega, hjb, by rw [HW.out, pr_drewN], fun t t1 t2 => ?_, hr.out⟩, by simp [intOf]; omega⟩
        by_cases ht : t = h
        · rw [ht]; exact HB.out
        · exact bf_trans (HSO.out t h t1 (by omega) (by omega)) HB.out
      · have HB : Hid (¬ Bf ks dk[h]! dk[a]!) := by show ¬ _; rw [← HG.out, ← HG.out]; exact fun g => hc (cmpV_lt.2 ((bf_key hlt2).1 g))
        clear hG hlt2
        go_wp2
        go_quiet (first | (go_at_call 37; exact hL _))
        go_wp2
        refine ⟨⟨i, h, q + nq, rfl, rfl, hai, hi1, by omega, by rw [HW.out, pr_drewN], hl.out, fun t t1 t2 g => ?_⟩, by simp [intOf]; omega⟩
        by_cases ht : t = h
        · rw [ht] at g; exact HB.out g
        · exact HB.out (bf_trans (HSO.out h t (by omega) (by omega) t2) g)
    · obtain rfl : i = j := by omega
      have H0 : Hid (wr = putRow eI (Sort.ahead w q) blk off d) := hw2
      have hni : ¬ (i : Int) < (i : Int) := by omega
      clear hw2
      go_wp2
      go_loopw [13] (fun vk wr2 => ∃ (k q : Nat) (dk : Array Int), vk = .int .i64 (k : Int) ∧ a ≤ k ∧ k ≤ i - 1 ∧ wr2 = putRow eI (Sort.ahead w q) blk off dk ∧ Hid (Via (upF a k) d dk)) (fun vk _ => i - (intOf vk).toNat)
      case atStart => exact ⟨a, q, d, rfl, Nat.le_refl _, by omega, by first | rfl | exact H0.out, up_zero a d⟩
      case round =>
        obtain ⟨k, q, dk, rfl, hak, hki, hw2, hv⟩ := hrel
        have hsk : dk.size = sz := by rw [hv.out.1]; exact HZ.out.symm
        have ei : (i : Int) - 1 = ((i - 1 : Nat) : Int) := by omega
        by_cases hk : k < i - 1
        · have hki' : (k : Int) < ((i - 1 : Nat) : Int) := by omega
          obtain ⟨G, hG⟩ : ∃ G : Nat → Int, ∀ t, G t = dk[t]! := ⟨fun t => dk[t]!, fun _ => rfl⟩
          have hcw : ∀ t, t < sz → wr.cell? ⟨blk, off + t, none⟩ = some (.int .i64 (G t)) := fun t ht => by
            rw [hw2, hG]; exact cell?_putRow _ _ _ _ d dk (holds_ahead _ _ _ _ _ _ hH) (by rw [hsk]; exact HZ.out) t (by omega)
          have hfw : ∀ t, t < sz → wr.frozen? ⟨blk, off + t, none⟩ = false := fun t ht => by
            rw [hw2, frozen?_putRow]; exact ((holds_ahead _ _ q _ _ _ hH) t (by rw [← HZ.out]; exact ht)).2
          have HW : Hid (wr = putRow eI (Sort.ahead w q) blk off dk) := hw2
          have HG : Hid (∀ t, G t = dk[t]!) := hG
          clear hw2 hG
          go_wp2
          go_region
          all_goals go_wp2
          exact ⟨⟨k + 1, q + 1, swp dk k (k + 1), by go_num, by omega, by omega, pr_swapD w wr q blk off dk _ _ _ _ HW.out (HG.out _) (HG.out _) (by omega) (by omega), up_step hv.out hak (by rw [← HZ.out]; omega)⟩, by simp [intOf]; omega⟩
        · obtain rfl : k = i - 1 := by omega
          have H1 : Hid (wr = putRow eI (Sort.ahead w q) blk off dk) := hw2
          have hkn : ¬ ((i - 1 : Nat) : Int) < ((i - 1 : Nat) : Int) := by omega
          clear hw2
          go_wp2
          refine bodyPost_ret (results_none rfl _ _ _) rfl ?_
          exact ⟨rfl, q, dk, H1.out, up_sm hv.out hak (by omega) (by rw [← HZ.out]; omega), mrg_one rfl HSO.out HPL.out (by rw [← HZ.out]; omega) (by omega) hjb hl.out hr.out hv.out⟩
set_option maxRecDepth 100000 in
set_option maxHeartbeats 8000000 in
theorem sym_last (blk off cap AB AL N : Nat) (ks : Int → Int) (sz : Nat) (n1 : AB ≠ blk) (n2 : AL ≠ blk) (hN : N ≤ 1000000) (hsz : sz ≤ 1000000) (a m : Nat) (d : Array Int) (w : World) (hab : a + 1 < m) (hb : m + 1 ≤ sz) (HZ' : d.size = sz) (hH : Holds eI w blk off d) (hA : Al w AB AL N ks) (hok : OkD N d) (ho : So ks d a m) (hp : Pl d a m (m + 1)) :
    Calls Try.prog 49 #[.slice (some ⟨blk, off, none⟩) sz cap, .int .i64 a, .int .i64 m, .int .i64 ((m : Int) + 1), .func (.func 37) #[] #[.pointer (some ⟨AB, 0, none⟩)]] w fun e w' => e = .returned (.tuple #[]) ∧ ∃ q d', w' = putRow eI (Sort.ahead w q) blk off d' ∧ Sm a (m + 1) d d' ∧ So ks d' a (m + 1) := by
  have HZ : Hid (sz = d.size) := HZ'.symm
  have HA : Hid (Al w AB AL N ks) := hA
  have HOK : Hid (OkD N d) := hok
  have HSO : Hid (So ks d a m) := ho
  have HPL : Hid (Pl d a m (m + 1)) := hp
  have ea : ((m : Int) - (a : Int) == 1) = false := beq_eq_false_iff_ne.2 (by omega)
  have eb : (m : Int) + 1 - (m : Int) = 1 := by omega
  clear hA hok ho hp HZ'
  go_enter Try.func49, Try.ntmps49
  go_wp2
  go_loopw [14, 15] (fun vi vj wr => ∃ (i j q : Nat), vi = .int .i64 (i : Int) ∧ vj = .int .i64 (j : Int) ∧ a ≤ i ∧ i ≤ j ∧ j ≤ m ∧ wr = putRow eI (Sort.ahead w q) blk off d ∧ Hid (∀ t, a ≤ t → t < i → ¬ Bf ks d[m]! d[t]!) ∧ Hid (∀ t, j ≤ t → t < m → Bf ks d[m]! d[t]!)) (fun vi vj _ => (intOf vj - intOf vi).toNat)
  case atStart => exact ⟨a, m, 0, rfl, rfl, Nat.le_refl _, by omega, Nat.le_refl _, (putRow_self _ _ _ _ _ hH).symm, fun t t1 t2 => by omega, fun t t1 t2 => by omega⟩
  case round =>
    obtain ⟨i, j, q, rfl, rfl, hai, hij, hjb, hw2, hl, hr⟩ := hrel
    by_cases hlt : i < j
    · obtain ⟨h, hh⟩ : ∃ h, h = (i + j) / 2 := ⟨_, rfl⟩
      have hhf := half i j
      rw [← hh] at hhf
      have hi1 : i ≤ h := by omega
      have hi2 : h < j := by omega
      have hlti : (i : Int) < (j : Int) := by omega
      clear hh
      obtain ⟨dk, hdk⟩ : ∃ dk, dk = d := ⟨_, rfl⟩
      rw [← hdk] at hw2
      have hsk : dk.size = sz := by rw [hdk]; exact HZ.out.symm
      have hAr := al_pr HA.out n1 n2 hw2
      obtain ⟨G, hG⟩ : ∃ G : Nat → Int, ∀ t, G t = dk[t]! := ⟨fun t => dk[t]!, fun _ => rfl⟩
      have hcw : ∀ t, t < sz → wr.cell? ⟨blk, off + t, none⟩ = some (.int .i64 (G t)) := fun t ht => by
        rw [hw2, hG]; exact cell?_putRow _ _ _ _ d dk (holds_ahead _ _ _ _ _ _ hH) (by rw [hsk]; exact HZ.out) t (by omega)
      have hfw : ∀ t, t < sz → wr.frozen? ⟨blk, off + t, none⟩ = false := fun t ht => by
        rw [hw2, frozen?_putRow]; exact ((holds_ahead _ _ q _ _ _ hH) t (by rw [← HZ.out]; exact ht)).2
      have HW : Hid (wr = putRow eI (Sort.ahead w q) blk off dk) := hw2
      have HG : Hid (∀ t, G t = dk[t]!) := hG
      clear hw2
      subst hdk
      have hL := fun n => lessQ hAr hN (G m) (G h) (by rw [HG.out]; exact HOK.out m (by omega)) (by rw [HG.out]; exact HOK.out h (by omega)) n
      have hlt2 : G h < G m := by rw [HG.out, HG.out]; exact HPL.out h m (by omega) (by omega) (Nat.le_refl _) (by omega)
      by_cases hc : cmpV (ks (G m)) (ks (G h)) < 0
      · have HB : Hid (Bf ks dk[m]! dk[h]!) := by rw [← HG.out, ← HG.out]; exact (bf_key hlt2).2 (cmpV_lt.1 hc)
        clear hG hlt2
        go_wp2
        go_quiet (first | (go_at_call 37; exact hL _))
        go_wp2
        refine ⟨⟨i, h, q + nq, rfl, rfl, hai, hi1, by omega, by rw [HW.out, pr_drewN], hl.out, fun t t1 t2 => ?_⟩, by simp [intOf]; omega⟩
        by_cases ht : t = h
        · rw [ht]; exact HB.out
        · exact bf_trans HB.out (HSO.out h t (by omega) (by omega) t2)
      · have HB : Hid (¬ Bf ks dk[m]! dk[h]!) := by show ¬ _; rw [← HG.out, ← HG.out]; exact fun g => hc (cmpV_lt.2 ((bf_key hlt2).1 g))
        have hcb : decide (cmpV (ks (G m)) (ks (G h)) < 0) = false := decide_eq_false hc
        have hc2 : 0 ≤ cmpV (ks (G m)) (ks (G h)) := by omega
        clear hG hlt2
        go_wp2
        go_quiet (first | (go_at_call 37; exact hL _))
        go_wp2
        go_roundw
        case rel =>
          refine ⟨h + 1, j, q + nq, by go_num, rfl, by omega, by omega, hjb, by rw [HW.out, pr_drewN], fun t t1 t2 g => ?_, hr.out⟩
          by_cases ht : t = h
          · rw [ht] at g; exact HB.out g
          · exact HB.out (bf_trans g (HSO.out t h t1 (by omega) (by omega)))
        case measure => simp [intOf]; omega
    · obtain rfl : i = j := by omega
      have H0 : Hid (wr = putRow eI (Sort.ahead w q) blk off d) := hw2
      have hni : ¬ (i : Int) < (i : Int) := by omega
      clear hw2
      go_wp2
      go_loopw [17] (fun vk wr2 => ∃ (k q : Nat) (dk : Array Int), vk = .int .i64 (k : Int) ∧ i ≤ k ∧ k ≤ m ∧ wr2 = putRow eI (Sort.ahead w q) blk off dk ∧ Hid (Via (dnF m k) d dk)) (fun vk _ => (intOf vk).toNat)
      case atStart => exact ⟨m, q, d, rfl, hjb, Nat.le_refl _, by first | rfl | exact H0.out, dn_zero m d⟩
      case round =>
        obtain ⟨k, q, dk, rfl, hik, hkm, hw2, hv⟩ := hrel
        have hsk : dk.size = sz := by rw [hv.out.1]; exact HZ.out.symm
        by_cases hk : i < k
        · have hki' : (i : Int) < (k : Int) := by omega
          have ek : (k : Int) - 1 = ((k - 1 : Nat) : Int) := by omega
          obtain ⟨G, hG⟩ : ∃ G : Nat → Int, ∀ t, G t = dk[t]! := ⟨fun t => dk[t]!, fun _ => rfl⟩
          have hcw : ∀ t, t < sz → wr.cell? ⟨blk, off + t, none⟩ = some (.int .i64 (G t)) := fun t ht => by
            rw [hw2, hG]; exact cell?_putRow _ _ _ _ d dk (holds_ahead _ _ _ _ _ _ hH) (by rw [hsk]; exact HZ.out) t (by omega)
          have hfw : ∀ t, t < sz → wr.frozen? ⟨blk, off + t, none⟩ = false := fun t ht => by
            rw [hw2, frozen?_putRow]; exact ((holds_ahead _ _ q _ _ _ hH) t (by rw [← HZ.out]; exact ht)).2
          have HW : Hid (wr = putRow eI (Sort.ahead w q) blk off dk) := hw2
          have HG : Hid (∀ t, G t = dk[t]!) := hG
          clear hw2 hG
          go_wp2
          go_region
          all_goals go_wp2
          refine ⟨⟨k - 1, q + 1, swp dk k (k - 1), rfl, by omega, by omega, pr_swapD w wr q blk off dk _ _ _ _ HW.out (HG.out _) (HG.out _) (by omega) (by omega), ?_⟩, by simp [intOf]; omega⟩
          have := dn_step (m := m) (k := k - 1) (d := d) (e := dk) (by rw [show k - 1 + 1 = k by omega]; exact hv.out) (by omega) (by rw [← HZ.out]; omega)
          rw [show k - 1 + 1 = k by omega] at this
          exact this
        · obtain rfl : k = i := by omega
          have H1 : Hid (wr = putRow eI (Sort.ahead w q) blk off dk) := hw2
          have hkn : ¬ (k : Int) < (k : Int) := by omega
          clear hw2
          go_wp2
          refine bodyPost_ret (results_none rfl _ _ _) rfl ?_
          exact ⟨rfl, q, dk, H1.out, dn_sm hv.out hai hkm (by omega) (by rw [← HZ.out]; omega), mrg_last rfl HSO.out HPL.out (by rw [← HZ.out]; omega) hai hjb hl.out hr.out hv.out⟩
end Go.Proofs.Ytlfdlifmcabfjaa
