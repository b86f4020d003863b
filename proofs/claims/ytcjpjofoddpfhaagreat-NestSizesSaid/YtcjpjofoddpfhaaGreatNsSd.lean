/-
  The document's Tuple.
-/
import Derived.Test.YtcjpjofoddpfhaaGreatExD
import Derived.Test.YtcjpjofoddpfhaaGreatNsSb
namespace Go.Proofs.YtcjpjofoddpfhaaGreat
open Go.RowKit
set_option linter.unusedVariables false
set_option linter.unusedSimpArgs false

theorem rCountC (s : Nat × Nat) (w : World) (h : s.1 ≤ s.2) (h2 : s.2 < 65536) :
    Calls Tryz.prog 44 #[.agg #[.int .u16 (s.1), .int .u16 (s.2)]] w fun e w' => e = .returned (.tuple #[.int .i64 (cS s : Nat), .int .i64 0]) ∧ Below w.heap.size w w' := by
  have hO := fun W => Xp.rof_ok s.1 s.2 W h h2
  go_enter Tryz.func44, Tryz.ntmps44
  go_wp2_with (fail)
  refine (hO _).mono ?_
  rintro e w1 ⟨v1, rfl, hr, hb⟩
  have HB : Hid (Below w.heap.size w w1) := by first | exact hb | exact bel_of ((Below.refl _ _).alloc (Nat.le_refl _) _) hb (by simp)
  have hlen : ∃ ad cap, v1 = .slice ad (cS s) cap := by
    rcases hr.2 with ⟨hv, hn⟩ | ⟨g, cap, cur, hv, _⟩
    · exact ⟨none, 0, by rw [hv]; unfold cS; rw [show (Xp.tl (Xp.hasB s) 16 0) = (Xp.tl (Xp.hasB (s.1, s.2)) 16 0) from rfl, hn]⟩
    · exact ⟨_, cap, hv⟩
  obtain ⟨ad, cap, rfl⟩ := hlen
  clear hr hb hO
  go_wp2
  go_ret2
  exact ⟨rfl, HB.out⟩
theorem ports_ok {R : Ru} (h : okR R = true) (b : BdR R) : R.p.1 ≤ R.p.2 ∧ R.p.2 < 65536 ∧ R.q.1 ≤ R.q.2 ∧ R.q.2 < 65536 := by
  obtain ⟨_, _, _, h1, h2, _⟩ := (okR_iff R).1 h
  unfold okI at h1 h2
  simp only [decide_eq_true_eq] at h1 h2
  obtain ⟨_, _, _, b1, _, b2, _⟩ := b
  exact ⟨h1, b1, h2, b2⟩
set_option maxRecDepth 20000 in
set_option maxHeartbeats 2000000 in
theorem rTupleC (l : List Ru) (v : Value) (w : World) (hs : SrcU w v l) (hb : ∀ R ∈ l, BdR R) :
    Calls Tryz.prog 22 #[v] w fun e w' => e = .returned (.tuple #[.int .i64 (tupL l : Nat), .int .i64 (setE l 64)]) ∧ Below w.heap.size w w' := by
  have hC := rlistC l v w hs hb
  have HS : Hid (SrcU w v l) := hs
  by_cases h0 : setE l 64 = 0
  · obtain ⟨o1, o2⟩ := set_okay hb h0
    have HG : Hid (tupL l = tupN (l.take l.length)) := by
      show tupL l = _
      unfold tupL; rw [if_pos h0, List.take_length]
    have HO : Hid (∀ R ∈ l, BdR R ∧ okR R = true) := o2
    obtain ⟨ad, cap, rfl, _, _⟩ := hs
    obtain ⟨n, hn⟩ : ∃ n, n = l.length := ⟨_, rfl⟩
    have hn64 : n ≤ 64 := by omega
    rw [← hn] at HS HG hC ⊢
    have Hn : Hid (n = l.length) := hn
    generalize tupL l = G at *
    rw [h0] at hC ⊢
    clear h0 o1 o2 hb hn
    go_enter Tryz.func22, Tryz.ntmps22
    go_wp2_with (fail)
    refine hC.mono ?_
    rintro e w1 ⟨rfl, hb1⟩
    have HB1 : Hid (Below w.heap.size w w1) := hb1
    clear hC hb1
    go_wp2_with (fail)
    go_loopw [5, 6] (fun vs vi wr => ∃ i : Nat, i ≤ n ∧ vs = .int .i64 ((tupN (l.take i) : Nat) : Int) ∧ vi = .int .i64 (i : Int) ∧ Hid (Below w.heap.size w wr)) (fun _ vi _ => n - (intOf vi).toNat)
    case atStart => exact ⟨0, Nat.zero_le _, rfl, rfl, HB1.out⟩
    case round =>
      obtain ⟨i, hi, rfl, rfl, HB⟩ := hrel
      clear HB1
      by_cases hlt : i < n
      · have hlt' : i < l.length := by rw [← Hn.out]; exact hlt
        have hlti : (i : Int) < (n : Int) := by omega
        have hR := HO.out _ (List.getElem_mem hlt')
        obtain ⟨g, off, ea, hrg⟩ := (rngU HS.out).2 wr HB.out i hlt'
        subst ea
        have hst := tup_step hlt'
        have htb : tupN (l.take i) ≤ 57600 := by
          have h1 := tup_le (l.take i)
          rw [List.length_take] at h1
          have : min i l.length * 900 ≤ 64 * 900 := Nat.mul_le_mul_right _ (by omega)
          omega
        obtain ⟨p, hp⟩ : ∃ p, p = l[i] := ⟨_, rfl⟩
        rw [← hp] at hrg hst hR
        have Hst : Hid (tupN (l.take (i + 1)) = tupN (l.take i) + cS p.p * cS p.q) := hst
        have HRg : Hid (∀ W, Below w.heap.size w W → W.cell? ⟨g, off + i * 12 + 5, none⟩ = some (.int .u16 (p.p.1 : Int)) ∧ W.cell? ⟨g, off + i * 12 + 6, none⟩ = some (.int .u16 (p.p.2 : Int)) ∧ W.cell? ⟨g, off + i * 12 + 7, none⟩ = some (.int .u16 (p.q.1 : Int)) ∧ W.cell? ⟨g, off + i * 12 + 8, none⟩ = some (.int .u16 (p.q.2 : Int))) := fun W hb => by
          obtain ⟨g', off', e', hr2⟩ := (rngU HS.out).2 W hb i hlt'
          injection e' with e'
          injection e' with e1 e2
          subst e1 e2
          rw [← hp] at hr2
          exact ⟨hr2 5 _ rfl, hr2 6 _ rfl, hr2 7 _ rfl, hr2 8 _ rfl⟩
        obtain ⟨k1, k2, k3, k4⟩ := ports_ok hR.2 hR.1
        have hC1 := fun W => rCountC p.p W k1 k2
        have hC2 := fun W => rCountC p.q W k3 k4
        have hb1 := cS_le p.p
        have hb2 := cS_le p.q
        obtain ⟨c5, c6, c7, c8⟩ := HRg.out wr HB.out
        clear hst hrg hR hp k1 k2 k3 k4 c7 c8
        generalize tupN (l.take i) = T0 at *
        generalize cS p.p = A at *
        generalize cS p.q = B at *
        have hAB : A * B ≤ 900 := Nat.mul_le_mul hb1 hb2
        have hABi : (A : Int) * (B : Int) = ((A * B : Nat) : Int) := by simp
        have hABn : (0 : Int) ≤ (A : Int) * (B : Int) ∧ (A : Int) * (B : Int) ≤ 900 := by rw [hABi]; omega
        have HABi : Hid ((A : Int) * (B : Int) = ((A * B : Nat) : Int)) := hABi
        clear hABi
        go_wp2_with (go_at_call 44; fail)
        refine (hC1 _).mono ?_
        rintro e w2 ⟨rfl, hb3⟩
        have HB2 : Hid (Below w.heap.size w w2) := bel_of HB.out hb3 HB.out.size
        obtain ⟨_, _, c7, c8⟩ := HRg.out w2 HB2.out
        clear hb3 hC1 c5 c6
        go_wp2_with (go_at_call 44; fail)
        refine (hC2 _).mono ?_
        rintro e w3 ⟨rfl, hb3⟩
        have HB3 : Hid (Below w.heap.size w w3) := bel_of HB2.out hb3 HB2.out.size
        clear hb3 hC2 c7 c8
        have hm : wrap64 ((A : Int) * (B : Int)) = (A : Int) * (B : Int) := by unfold wrap64; omega
        have hm2 : wrap64 ((T0 : Int) + (A : Int) * (B : Int)) = (T0 : Int) + (A : Int) * (B : Int) := by unfold wrap64; omega
        go_wp2_with (fail)
        go_roundw
        case rel => exact ⟨i + 1, by omega, (by rw [Hst.out]; simp), by go_num, HB3.out⟩
        case measure => simp [intOf]; omega
      · obtain rfl : i = n := by omega
        have hni : ¬ (i : Int) < (i : Int) := by omega
        rw [← HG.out]
        go_wp2
        go_ret2
        exact ⟨rfl, HB.out⟩
  · have hG : tupL l = 0 := if_neg h0
    rw [hG]
    have h0' : (setE l 64 != 0) = true := by simpa using h0
    clear hG
    generalize setE l 64 = E at *
    go_enter Tryz.func22, Tryz.ntmps22
    go_wp2_with (fail)
    refine hC.mono ?_
    rintro e w1 ⟨rfl, hb1⟩
    have HB1 : Hid (Below w.heap.size w w1) := hb1
    clear hC hb1
    go_wp2
    go_ret2
    exact ⟨rfl, HB1.out⟩
end Go.Proofs.YtcjpjofoddpfhaaGreat
