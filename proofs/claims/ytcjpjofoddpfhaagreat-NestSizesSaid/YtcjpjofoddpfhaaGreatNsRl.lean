/-
  The document's List. Written by tools/mkNsRl.py.
-/
import Derived.Test.YtcjpjofoddpfhaaGreatNsQ
import Derived.Test.YtcjpjofoddpfhaaGreatTbRe
namespace Go.Proofs.YtcjpjofoddpfhaaGreat
open Go.RowKit
set_option linter.unusedVariables false
set_option linter.unusedSimpArgs false


theorem fnd_take {l : List Ru} {k : Nat} {x : Int} (h : ∀ j (hj : j < l.length), j < k → (l[j]).i ≠ x) : fnd (l.take k) x = -1 := by
  rw [fnd_none]
  intro R hR
  obtain ⟨j, hj, rfl⟩ := List.mem_iff_getElem.1 hR
  rw [List.length_take] at hj
  rw [List.getElem_take]
  exact h j (by omega) (by omega)
theorem fnd_hit {l : List Ru} {k j : Nat} {x : Int} (hk : k ≤ l.length) (hj : j < k) (h : (l[j]'(by omega)).i = x) : 0 ≤ fnd (l.take k) x := by
  rcases fnd_range (l.take k) x with e | e
  · rw [fnd_none] at e
    have hm : l[j]'(by omega) ∈ l.take k := by
      rw [List.mem_iff_getElem]
      exact ⟨j, by rw [List.length_take]; omega, by rw [List.getElem_take]⟩
    exact absurd h (e _ hm)
  · exact e.1
set_option maxRecDepth 20000 in
set_option maxHeartbeats 4000000 in
theorem rlistC (l : List Ru) (v : Value) (w : World) (hs : SrcU w v l) (hb : ∀ R ∈ l, BdR R) :
    Calls Tryz.prog 40 #[v] w fun e w' => e = .returned (.int .i64 (setE l 64)) ∧ Below w.heap.size w w' := by
  have HS : Hid (SrcU w v l) := hs
  have HBd : Hid (∀ R ∈ l, BdR R) := hb
  obtain ⟨ad, cap, rfl, hcp, _⟩ := hs
  obtain ⟨n, hn⟩ : ∃ n, n = l.length := ⟨_, rfl⟩
  rw [← hn] at HS ⊢
  have Hn : Hid (n = l.length) := hn
  obtain ⟨A, hA⟩ : ∃ A, A = setE l 64 := ⟨_, rfl⟩
  have HA : Hid (A = setK 64 (l.take 0) (l.drop 0)) := hA
  rw [← hA]
  clear hn hb hcp hA
  go_enter Tryz.func40, Tryz.ntmps40
  go_wp2_with (fail)
  go_loopw [3] (fun vi wr => ∃ k : Nat, k ≤ n ∧ k ≤ 64 ∧ vi = .int .i64 (k : Int) ∧ Hid (A = setK 64 (l.take k) (l.drop k)) ∧ Hid (Below w.heap.size w wr)) (fun vi _ => n - (intOf vi).toNat)
  case atStart => exact ⟨0, Nat.zero_le _, Nat.zero_le _, rfl, HA.out, Below.refl _ _⟩
  case round =>
    obtain ⟨k, hk, hk64, rfl, HK, HB⟩ := hrel
    clear HA
    by_cases hlt : k < n
    · have hlt' : k < l.length := by rw [← Hn.out]; exact hlt
      have hlti : (k : Int) < (n : Int) := by omega
      obtain ⟨g, off, rfl, hrg⟩ := (rngU HS.out).2 wr HB.out k hlt'
      have hbd := HBd.out _ (List.getElem_mem hlt')
      have hbad := fun e => setK_bad (l := l) (M := 64) hlt' e
      have hful := fun e h => setK_full (l := l) (M := 64) hlt' e h
      have hnxt := fun e h => setK_next (l := l) (M := 64) hlt' e h
      obtain ⟨p, hp⟩ : ∃ p, p = l[k] := ⟨_, rfl⟩
      rw [← hp] at hrg hbd hbad hful hnxt
      have Hp : Hid (p = l[k]) := hp
      clear hp
      have x0 : wr.cell? ⟨g, off + k * 12, none⟩ = some (.int .i64 p.i) := hrg 0 _ rfl
      have x1 : wr.cell? ⟨g, off + k * 12 + 1, none⟩ = some (.int .u32 (p.s : Int)) := hrg 1 _ rfl
      have x2 : wr.cell? ⟨g, off + k * 12 + 2, none⟩ = some (.int .i64 p.sl) := hrg 2 _ rfl
      have x3 : wr.cell? ⟨g, off + k * 12 + 3, none⟩ = some (.int .u32 (p.d : Int)) := hrg 3 _ rfl
      have x4 : wr.cell? ⟨g, off + k * 12 + 4, none⟩ = some (.int .i64 p.dl) := hrg 4 _ rfl
      have x5 : wr.cell? ⟨g, off + k * 12 + 5, none⟩ = some (.int .u16 (p.p.1 : Int)) := hrg 5 _ rfl
      have x6 : wr.cell? ⟨g, off + k * 12 + 6, none⟩ = some (.int .u16 (p.p.2 : Int)) := hrg 6 _ rfl
      have x7 : wr.cell? ⟨g, off + k * 12 + 7, none⟩ = some (.int .u16 (p.q.1 : Int)) := hrg 7 _ rfl
      have x8 : wr.cell? ⟨g, off + k * 12 + 8, none⟩ = some (.int .u16 (p.q.2 : Int)) := hrg 8 _ rfl
      have x9 : wr.cell? ⟨g, off + k * 12 + 9, none⟩ = some (.int .u8 (p.m.1 : Int)) := hrg 9 _ rfl
      have x10 : wr.cell? ⟨g, off + k * 12 + 10, none⟩ = some (.int .u8 (p.m.2 : Int)) := hrg 10 _ rfl
      have x11 : wr.cell? ⟨g, off + k * 12 + 11, none⟩ = some (.int .i64 p.act) := hrg 11 _ rfl
      have hC := fun W => rcheckR p W hbd
      have Hbad : Hid _ := hbad
      have Hful : Hid _ := hful
      have Hnxt : Hid _ := hnxt
      clear hrg hbd hbad hful hnxt
      go_wp2_with (go_at_call 64; fail)
      clear x0 x1 x2 x3 x4 x5 x6 x7 x8 x9 x10 x11
      refine (hC _).mono ?_
      rintro e w3 ⟨rfl, hb3⟩
      have HB3 : Hid (Below w.heap.size w w3) := bel_of HB.out hb3 HB.out.size
      clear hb3 hC
      cases hok : okR p with
      | false =>
        have hne := errs_no hok
        have hj : joinE (l.take k) p = (errs p).1 := by unfold joinE; rw [if_neg hne]
        have HV : Hid (A = (errs p).1) := by
          show A = (errs p).1
          rw [HK.out, Hbad.out (by rw [hj]; exact hne), hj]
        have hne' : ((errs p).1 != 0) = true := by simpa using hne
        clear hj hok hne
        generalize (errs p).1 = E1 at *
        generalize (errs p).2 = E2 at *
        go_wp2_with (fail)
        go_ret
        exact ⟨ret_int HV.out.symm, HB3.out⟩
      | true =>
        rw [errs_ok hok]
        have he0 : (errs p).1 = 0 := by rw [errs_ok hok]
        have Hj : Hid (joinE (l.take k) p = if 0 ≤ fnd (l.take k) p.i then 111 else 0) := by show _ = _; unfold joinE; rw [if_pos he0]
        clear hok he0
        go_wp2_with (fail)
        generalize w3 = V3 at *
        go_loopw [6] (fun vj wr => ∃ j : Nat, j ≤ k ∧ vj = .int .i64 (j : Int) ∧ Hid (∀ i (hi : i < l.length), i < j → (l[i]).i ≠ p.i) ∧ Hid (Below w.heap.size w wr)) (fun vj _ => k - (intOf vj).toNat)
        case atStart => exact ⟨0, Nat.zero_le _, rfl, fun i _ hi => by omega, HB3.out⟩
        case round =>
          obtain ⟨j, hj, rfl, HN, HBj⟩ := hrel
          clear HB3
          by_cases hltj : j < k
          · have hltj' : j < l.length := by omega
            have hltji : (j : Int) < (k : Int) := by omega
            have hjn : (j : Int) < (n : Int) := by omega
            obtain ⟨g', off', e', hrj⟩ := (rngU HS.out).2 wr HBj.out j hltj'
            injection e' with e'
            injection e' with e1 e2
            subst e1 e2
            obtain ⟨g', off', e', hrk⟩ := (rngU HS.out).2 wr HBj.out k hlt'
            injection e' with e'
            injection e' with e1 e2
            subst e1 e2
            rw [← Hp.out] at hrk
            have q0 : wr.cell? ⟨g, off + j * 12, none⟩ = some (.int .i64 (l[j]).i) := hrj 0 _ rfl
            have q1 : wr.cell? ⟨g, off + k * 12, none⟩ = some (.int .i64 p.i) := hrk 0 _ rfl
            clear hrj hrk
            by_cases hid : (l[j]).i = p.i
            · have HV : Hid (A = 111) := by
                show A = 111
                have h1 := Hj.out
                rw [if_pos (fnd_hit (Nat.le_of_lt hlt') hltj hid)] at h1
                rw [HK.out, Hbad.out (by rw [h1]; decide), h1]
              have hb1 : ((l[j]).i == p.i) = true := by simpa using hid
              generalize (l[j]).i = xj at *
              clear hid
              go_wp2_with (fail)
              go_quiet (fail)
              go_wp2_with (fail)
              go_ret
              exact ⟨ret_int HV.out.symm, bel_drewN HBj.out _⟩
            · have HN2 : Hid (∀ i (hi : i < l.length), i < j + 1 → (l[i]).i ≠ p.i) := fun i hi hij => by
                by_cases e : i = j
                · subst e; exact hid
                · exact HN.out i hi (by omega)
              have hb1 : ((l[j]).i == p.i) = false := by simpa using hid
              generalize (l[j]).i = xj at *
              go_wp2_with (fail)
              go_quiet (fail)
              go_wp2_with (fail)
              go_roundw
              case rel => exact ⟨j + 1, by omega, by go_num, HN2.out, bel_drewN HBj.out _⟩
              case measure => simp [intOf]; omega
          · obtain rfl : j = k := by omega
            have hnj : ¬ (j : Int) < (j : Int) := by omega
            have Hj0 : Hid (joinE (l.take j) p = 0) := by
              show joinE (l.take j) p = 0
              rw [Hj.out, fnd_take HN.out]; rfl
            by_cases h64 : (j : Int) = 64
            · have HV : Hid (A = 113) := by
                show A = 113
                rw [HK.out, Hful.out Hj0.out (by omega)]
              have h64b : ((j : Int) == 64) = true := by simpa using h64
              clear h64
              go_wp2_with (fail)
              go_ret
              exact ⟨ret_int HV.out.symm, HBj.out⟩
            · have HK3 : Hid (A = setK 64 (l.take (j + 1)) (l.drop (j + 1))) := by
                show A = setK 64 (l.take (j + 1)) (l.drop (j + 1))
                rw [HK.out, Hnxt.out Hj0.out (by omega)]
              have h64b : ((j : Int) == 64) = false := by simpa using h64
              go_wp2_with (fail)
              go_roundw
              case rel => exact ⟨j + 1, by omega, by omega, by go_num, HK3.out, HBj.out⟩
              case measure => simp [intOf]; omega
    · obtain rfl : k = n := by omega
      have hni : ¬ (k : Int) < (k : Int) := by omega
      have HV : Hid (A = 0) := by
        show A = 0
        rw [HK.out, setK_end (by rw [← Hn.out]; exact Nat.le_refl _)]
      go_wp2
      go_ret
      exact ⟨ret_int HV.out.symm, HB.out⟩
end Go.Proofs.YtcjpjofoddpfhaaGreat
