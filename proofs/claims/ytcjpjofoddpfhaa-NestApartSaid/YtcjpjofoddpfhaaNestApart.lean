/-
  The law NestApart answers true for every list of spans: alike ones have one level, unlike ones of one level have no port in common, one of a level above 0 has a port in common with one of each level below, and the document's examples are met (P14.5).
  Conditions: none; the law holds for every input.
-/
import Derived.Test.YtcjpjofoddpfhaaNsW
import Derived.Test.YtcjpjofoddpfhaaNsFr
namespace Go.Proofs.Ytcjpjofoddpfhaa
open Go.ChangeShapes Go.WideShapes Go.ChangeAt Go.RowKit Go.Joins
set_option linter.unusedVariables false
set_option linter.unusedSimpArgs false

set_option maxRecDepth 40000 in
set_option maxHeartbeats 8000000 in
theorem nestApart_walk (l : List (Nat × Nat)) (v : Value) (bd : (∀ s ∈ l, Bd16 s) ∧ l.length ≤ maxLen) (w : World) (hs : SrcS w v l) :
    Calls Try.prog 3 #[v] w fun e w' => e = .returned (.bool true) ∧ Below w.heap.size w w' := by
  have hW := wrongC l v w hs bd.2
  have HS : Hid (SrcS w v l) := hs
  have HBd : Hid (∀ s ∈ l, Bd16 s) := bd.1
  obtain ⟨ad, cap, rfl, _, _⟩ := hs
  obtain ⟨n, hn⟩ : ∃ n, n = l.length := ⟨_, rfl⟩
  rw [← hn] at HS hW ⊢
  have Hn : Hid (n = l.length) := hn
  clear hn bd
  cases hok : okS l with
  | false =>
    rw [hok] at hW
    simp only [Bool.not_false] at hW
    clear hok
    go_enter Try.func3, Try.ntmps3
    go_wp2_with (fail)
    refine hW.mono ?_
    rintro e w1 ⟨rfl, hb1⟩
    have HB1 : Hid (Below w.heap.size w w1) := hb1
    clear hb1 hW
    go_wp2_with (fail)
    refine (awakeC _).mono ?_
    rintro e w2 ⟨rfl, hb2⟩
    have HB2 : Hid (Below w.heap.size w w2) := bel_of HB1.out hb2 HB1.out.size
    clear hb2
    go_wp2
    go_ret
    exact ⟨rfl, HB2.out⟩
  | true =>
    rw [hok] at hW
    simp only [Bool.not_true] at hW
    have Hok : Hid (okS l = true) := hok
    clear hok
    by_cases hlt : 4000 < n
    · have hlti : (4000 : Int) < (n : Int) := by omega
      go_enter Try.func3, Try.ntmps3
      go_wp2_with (fail)
      refine hW.mono ?_
      rintro e w1 ⟨rfl, hb1⟩
      have HB1 : Hid (Below w.heap.size w w1) := hb1
      clear hb1 hW
      go_wp2_with (fail)
      refine (awakeC _).mono ?_
      rintro e w2 ⟨rfl, hb2⟩
      have HB2 : Hid (Below w.heap.size w w2) := bel_of HB1.out hb2 HB1.out.size
      clear hb2
      go_wp2
      go_ret
      exact ⟨rfl, HB2.out⟩
    · have hlti : ¬ (4000 : Int) < (n : Int) := by omega
      have hnb : n ≤ 4000 := by omega
      go_enter Try.func3, Try.ntmps3
      go_wp2_with (fail)
      refine hW.mono ?_
      rintro e w1 ⟨rfl, hb1⟩
      have hL := levelsC l _ w1 (HS.out.keep hb1) (by rw [← Hn.out]; omega) HBd.out
      have HB1 : Hid (Below w.heap.size w w1) := hb1
      clear hb1 hW
      go_wp2_with (fail)
      refine hL.mono ?_
      rintro e w2 ⟨hq, hb2⟩
      rcases hq with ⟨_, v2, u, rfl, hu1, hu2, hr2⟩ | ⟨hno, rfl⟩
      rotate_left
      · rw [Hok.out] at hno; cases hno
      have HB2 : Hid (Below w.heap.size w w2) := bel_of HB1.out hb2 HB1.out.size
      have HU1 : Hid (InO u) := hu1
      have HU2 : Hid (∀ x, x ∈ u ↔ x ∈ l) := hu2
      have HR2 : Hid (SrcI w2 v2 (ofN (l.map (lvU u)))) := hr2.src
      have hD := depthC l _ w2 (HS.out.keep HB2.out) (by rw [← Hn.out]; omega) HBd.out
      clear hb2 hL hu1 hu2 hr2 HB1
      go_wp2_with (fail)
      refine hD.mono ?_
      rintro e w4 ⟨hq, hb4⟩
      rcases hq with ⟨_, u', hu1, hu2, rfl⟩ | ⟨hno, rfl⟩
      rotate_left
      · rw [Hok.out] at hno; cases hno
      obtain rfl : u' = u := ino_uniq hu1 HU1.out (fun x => (hu2 x).trans (HU2.out x).symm)
      have HB4 : Hid (Below w.heap.size w w4) := bel_of HB2.out hb4 HB2.out.size
      have HR4 : Hid (SrcI w4 v2 (ofN (l.map (lvU u')))) := HR2.out.keep hb4
      have HS4 : Hid (SrcS w4 (.slice ad n cap) l) := HS.out.keep HB4.out
      clear hb4 hD hu1 hu2 HB2 HR2
      obtain ⟨a2, c2, rfl⟩ := HR4.out.len
      have e2 : (ofN (l.map (lvU u'))).length = n := by rw [Hn.out]; simp [ofN]
      rw [e2] at HR4 ⊢
      clear e2
      have Hlv : Hid (∀ k (hk : k < l.length), lvU u' l[k] < dep (l.map (lvU u'))) := fun k hk => dep_lt (List.mem_map.2 ⟨_, List.getElem_mem hk, rfl⟩)
      have hDb : dep (l.map (lvU u')) ≤ 4000 := by
        have h1 : u'.length ≤ l.length := List.Nodup.length_le_of_subset (ino_nodup HU1.out) (fun x hx => (HU2.out x).1 hx)
        have : dep (l.map (lvU u')) ≤ u'.length := dep_le (fun n hn => by
          obtain ⟨s, hs, rfl⟩ := List.mem_map.1 hn
          exact lvU_lt ((HU2.out s).2 hs))
        have := Hn.out; omega
      have Hap : Hid (∀ i (hi : i < l.length) k (hk : k < l.length), l[k] ≠ l[i] → lvU u' l[k] = lvU u' l[i] → mt l[k] l[i] = false) := fun i hi k hk hne he => lv_apart (ino_nodup HU1.out) ((HU2.out _).2 (List.getElem_mem hk)) ((HU2.out _).2 (List.getElem_mem hi)) hne he
      have Hbe : Hid (∀ i (hi : i < l.length) m, m < lvU u' l[i] → l.any (fun t => decide (lvU u' t = m) && mt t l[i]) = true) := fun i hi m hm => by
        obtain ⟨t, ht, h1, h2⟩ := lv_below (ino_nodup HU1.out) ((HU2.out _).2 (List.getElem_mem hi)) hm
        rw [List.any_eq_true]
        exact ⟨t, (HU2.out t).1 ht, by rw [decide_eq_true h1, h2]; rfl⟩
      have HDz : Hid ((0 < dep (l.map (lvU u'))) ↔ 0 < n) := by
        show (0 < dep (l.map (lvU u'))) ↔ 0 < n
        rw [dep_pos, Hn.out]
        cases l <;> simp
      have HU1' : Hid (InO u') := HU1.out
      generalize dep (l.map (lvU u')) = D at *
      go_wp2_with (fail)
      go_loopw [7] (fun vi wr => ∃ i : Nat, i ≤ n ∧ vi = .int .i64 (i : Int) ∧ Hid (Below w.heap.size w wr) ∧ Hid (Below w4.heap.size w4 wr)) (fun vi _ => n - (intOf vi).toNat)
      case atStart => exact ⟨0, Nat.zero_le _, rfl, HB4.out, Below.refl _ _⟩
      case round =>
        obtain ⟨i, hi, rfl, HBw, HBq⟩ := hrel
        clear HB4
        by_cases hlti1 : i < n
        · have hlt' : i < l.length := by rw [← Hn.out]; exact hlti1
          have hlti2 : (i : Int) < (n : Int) := by omega
          obtain ⟨g2, o2, rfl, cn⟩ := (HR4.out.keep HBq.out).at (k := i) (by simp [ofN]; exact hlt')
          rw [ofN_at, List.getElem_map] at cn
          obtain ⟨g, off, rfl, c0, c1⟩ := (srcS_at HS4.out).2 HBq.out i hlt'
          have hLv := Hlv.out i hlt'
          have hap := fun k hk => Hap.out i hlt' k hk
          have hbe := Hbe.out i hlt'
          have Hs : Hid (l[i] = l[i]) := rfl
          obtain ⟨s, hs⟩ : ∃ s, s = l[i] := ⟨_, rfl⟩
          have HI : Hid (s = l[i]) := hs
          rw [← hs] at cn c0 c1 hLv hap hbe
          have HAp : Hid _ := hap
          have HBe : Hid (∀ m, m < lvU u' s → l.any (fun t => decide (lvU u' t = m) && mt t s) = true) := hbe
          obtain ⟨L, hL⟩ : ∃ L, L = lvU u' s := ⟨_, rfl⟩
          have HL : Hid (L = lvU u' s) := hL
          rw [← hL] at cn hLv
          have hLi : (L : Int) < (D : Int) := by omega
          have hLn : ¬ (D : Int) ≤ (L : Int) := by omega
          have hLb : L ≤ 4000 := by omega
          clear hap hbe hs hL Hs
          go_wp2_with (fail)
          generalize wr = V1 at *
          go_loopw [8, 9] (fun s8 s9 wr => ∃ m : Nat, m ≤ L ∧ s8 = .int .i64 (m : Int) ∧ s9 = .int .i64 (m : Int) ∧ Hid (Below w.heap.size w wr) ∧ Hid (Below w4.heap.size w4 wr)) (fun _ s9 _ => L - (intOf s9).toNat)
          case atStart => exact ⟨0, Nat.zero_le _, rfl, rfl, HBw.out, HBq.out⟩
          case round =>
            obtain ⟨m, hm, rfl, rfl, HBw2, HBq2⟩ := hrel
            clear HBw HBq cn c0 c1
            obtain ⟨g2', o2', e', cn⟩ := (HR4.out.keep HBq2.out).at (k := i) (by simp [ofN]; exact hlt')
            rw [ofN_at, List.getElem_map] at cn
            injection e' with e'
            injection e' with e1 e2
            subst e1 e2
            obtain ⟨g', off', e', c0, c1⟩ := (srcS_at HS4.out).2 HBq2.out i hlt'
            injection e' with e'
            injection e' with e1 e2
            subst e1 e2
            rw [← HI.out] at cn c0 c1
            rw [← HL.out] at cn
            by_cases hltm : m < L
            · have hltmi : (m : Int) < (L : Int) := by omega
              go_wp2_with (fail)
              generalize wr = V2 at *
              clear cn c0 c1
              go_loopw [10, 11] (fun s10 s11 wr => ∃ (F : Bool) (k : Nat), k ≤ n ∧ s10 = .bool F ∧ s11 = .int .i64 (k : Int) ∧ Hid (F = (l.take k).any (fun t => decide (lvU u' t = m) && mt t s)) ∧ Hid (Below w.heap.size w wr) ∧ Hid (Below w4.heap.size w4 wr)) (fun _ s11 _ => n - (intOf s11).toNat)
              case atStart => exact ⟨false, 0, Nat.zero_le _, rfl, rfl, rfl, HBw2.out, HBq2.out⟩
              case round =>
                obtain ⟨F, k, hk, rfl, rfl, HF, HBw3, HBq3⟩ := hrel
                clear HBw2 HBq2
                by_cases hltk : k < n
                · have hltk' : k < l.length := by rw [← Hn.out]; exact hltk
                  have hltki : (k : Int) < (n : Int) := by omega
                  obtain ⟨g2', o2', e', cn⟩ := (HR4.out.keep HBq3.out).at (k := i) (by simp [ofN]; exact hlt')
                  rw [ofN_at, List.getElem_map] at cn
                  injection e' with e'
                  injection e' with e1 e2
                  subst e1 e2
                  obtain ⟨g', off', e', c0, c1⟩ := (srcS_at HS4.out).2 HBq3.out i hlt'
                  injection e' with e'
                  injection e' with e1 e2
                  subst e1 e2
                  rw [← HI.out] at cn c0 c1
                  rw [← HL.out] at cn
                  obtain ⟨g2', o2', e', dn⟩ := (HR4.out.keep HBq3.out).at (k := k) (by simp [ofN]; exact hltk')
                  rw [ofN_at, List.getElem_map] at dn
                  injection e' with e'
                  injection e' with e1 e2
                  subst e1 e2
                  obtain ⟨g', off', e', d0, d1⟩ := (srcS_at HS4.out).2 HBq3.out k hltk'
                  injection e' with e'
                  injection e' with e1 e2
                  subst e1 e2
                  have hst : (l.take (k + 1)).any (fun t => decide (lvU u' t = m) && mt t s) = (F || (decide (lvU u' l[k] = m) && mt l[k] s)) := by rw [take_at hltk', List.any_append, HF.out]; simp
                  generalize lvU u' l[k] = M at *
                  generalize l[k] = t at *
                  have Hst : Hid _ := hst
                  clear hst HF
                  cases F with
                  | true =>
                    have HF2 : Hid (true = (l.take (k + 1)).any (fun t => decide (lvU u' t = m) && mt t s)) := by show _ = _; rw [Hst.out]; rfl
                    clear Hst
                    go_wp2_with (fail)
                    go_quiet (fail)
                    go_wp2_with (fail)
                    go_roundw
                    case rel => exact ⟨_, k + 1, by omega, rfl, by go_num, HF2.out, bel_drewN HBw3.out _, bel_drewN HBq3.out _⟩
                    case measure => simp [intOf]; omega
                  | false =>
                    by_cases hM : M = m
                    · have hMb : ((M : Int) == (m : Int)) = true := by rw [hM]; simp
                      by_cases h1 : t.1 ≤ s.2
                      · have h1i : (t.1 : Int) ≤ (s.2 : Int) := by omega
                        by_cases h2 : s.1 ≤ t.2
                        · have h2i : (s.1 : Int) ≤ (t.2 : Int) := by omega
                          have HF2 : Hid (true = (l.take (k + 1)).any (fun t => decide (lvU u' t = m) && mt t s)) := by show _ = _; rw [Hst.out, decide_eq_true hM, mt_iff.2 ⟨h1, h2⟩]; rfl
                          clear Hst hM
                          go_wp2_with (fail)
                          go_quiet (fail)
                          go_wp2_with (fail)
                          go_roundw
                          case rel => exact ⟨_, k + 1, by omega, rfl, by go_num, HF2.out, bel_drewN HBw3.out _, bel_drewN HBq3.out _⟩
                          case measure => simp [intOf]; omega
                        · have h2i : ¬ (s.1 : Int) ≤ (t.2 : Int) := by omega
                          have HF2 : Hid (false = (l.take (k + 1)).any (fun t => decide (lvU u' t = m) && mt t s)) := by
                            show _ = _
                            have : mt t s = false := by rw [Bool.eq_false_iff, Ne, mt_iff]; omega
                            rw [Hst.out, this]; simp
                          clear Hst hM
                          go_wp2_with (fail)
                          go_quiet (fail)
                          go_wp2_with (fail)
                          go_roundw
                          case rel => exact ⟨_, k + 1, by omega, rfl, by go_num, HF2.out, bel_drewN HBw3.out _, bel_drewN HBq3.out _⟩
                          case measure => simp [intOf]; omega
                      · have h1i : ¬ (t.1 : Int) ≤ (s.2 : Int) := by omega
                        have HF2 : Hid (false = (l.take (k + 1)).any (fun t => decide (lvU u' t = m) && mt t s)) := by
                          show _ = _
                          have : mt t s = false := by rw [Bool.eq_false_iff, Ne, mt_iff]; omega
                          rw [Hst.out, this]; simp
                        clear Hst hM
                        go_wp2_with (fail)
                        go_quiet (fail)
                        go_wp2_with (fail)
                        go_roundw
                        case rel => exact ⟨_, k + 1, by omega, rfl, by go_num, HF2.out, bel_drewN HBw3.out _, bel_drewN HBq3.out _⟩
                        case measure => simp [intOf]; omega
                    · have hMb : ((M : Int) == (m : Int)) = false := by simp; omega
                      have HF2 : Hid (false = (l.take (k + 1)).any (fun t => decide (lvU u' t = m) && mt t s)) := by show _ = _; rw [Hst.out, decide_eq_false hM]; rfl
                      clear Hst hM
                      go_wp2_with (fail)
                      go_quiet (fail)
                      go_wp2_with (fail)
                      go_roundw
                      case rel => exact ⟨_, k + 1, by omega, rfl, by go_num, HF2.out, bel_drewN HBw3.out _, bel_drewN HBq3.out _⟩
                      case measure => simp [intOf]; omega
                · obtain rfl : k = n := by omega
                  have hnk : ¬ (k : Int) < (k : Int) := by omega
                  have hFt : F = true := by rw [HF.out, Hn.out, List.take_length]; exact HBe.out m (by rw [← HL.out]; exact hltm)
                  subst hFt
                  go_wp2_with (fail)
                  go_roundw
                  case rel => exact ⟨m + 1, by omega, by go_num, by go_num, HBw3.out, HBq3.out⟩
                  case measure => simp [intOf]; omega
            · obtain rfl : m = L := by omega
              have hnm : ¬ (m : Int) < (m : Int) := by omega
              go_wp2_with (fail)
              generalize wr = V2 at *
              clear cn c0 c1
              go_loopw [12] (fun s12 wr => ∃ k : Nat, k ≤ i ∧ s12 = .int .i64 (k : Int) ∧ Hid (Below w.heap.size w wr) ∧ Hid (Below w4.heap.size w4 wr)) (fun s12 _ => i - (intOf s12).toNat)
              case atStart => exact ⟨0, Nat.zero_le _, rfl, HBw2.out, HBq2.out⟩
              case round =>
                obtain ⟨k, hk, rfl, HBw3, HBq3⟩ := hrel
                clear HBw2 HBq2
                by_cases hltk : k < i
                · have hltk' : k < l.length := by omega
                  have hltki : (k : Int) < (i : Int) := by omega
                  have hltkn : (k : Int) < (n : Int) := by omega
                  obtain ⟨g2', o2', e', cn⟩ := (HR4.out.keep HBq3.out).at (k := i) (by simp [ofN]; exact hlt')
                  rw [ofN_at, List.getElem_map] at cn
                  injection e' with e'
                  injection e' with e1 e2
                  subst e1 e2
                  obtain ⟨g', off', e', c0, c1⟩ := (srcS_at HS4.out).2 HBq3.out i hlt'
                  injection e' with e'
                  injection e' with e1 e2
                  subst e1 e2
                  rw [← HI.out] at cn c0 c1
                  rw [← HL.out] at cn
                  obtain ⟨g2', o2', e', dn⟩ := (HR4.out.keep HBq3.out).at (k := k) (by simp [ofN]; exact hltk')
                  rw [ofN_at, List.getElem_map] at dn
                  injection e' with e'
                  injection e' with e1 e2
                  subst e1 e2
                  obtain ⟨g', off', e', d0, d1⟩ := (srcS_at HS4.out).2 HBq3.out k hltk'
                  injection e' with e'
                  injection e' with e1 e2
                  subst e1 e2
                  have hap := HAp.out k hltk'
                  have hsame : l[k] = s → lvU u' l[k] = m := fun e => by rw [e, HL.out]
                  rw [← HL.out] at hap
                  generalize lvU u' l[k] = M at *
                  generalize l[k] = t at *
                  have he := fun W => eqS_any t s W
                  have hne := fun W => neS_any t s W
                  by_cases hts : t = s
                  · have hM : M = m := hsame hts
                    have hMb : ((M : Int) != (m : Int)) = false := by simp; omega
                    rw [decide_eq_true hts] at he hne
                    simp only [Bool.not_true] at hne
                    clear hap hsame
                    by_cases h1 : t.1 ≤ s.2
                    · have h1i : (t.1 : Int) ≤ (s.2 : Int) := by omega
                      by_cases h2 : s.1 ≤ t.2
                      · have h2i : (s.1 : Int) ≤ (t.2 : Int) := by omega
                        clear hts hM
                        go_wp2_with (fail)
                        go_quiet (fail)
                        go_wp2_with (fail)
                        go_quiet (fail)
                        go_wp2_with (fail)
                        go_roundw
                        case rel => exact ⟨k + 1, by omega, by go_num, bel_drewN HBw3.out _, bel_drewN HBq3.out _⟩
                        case measure => simp [intOf]; omega
                      · have h2i : ¬ (s.1 : Int) ≤ (t.2 : Int) := by omega
                        clear hts hM
                        go_wp2_with (fail)
                        go_quiet (fail)
                        go_wp2_with (fail)
                        go_quiet (fail)
                        go_wp2_with (fail)
                        go_roundw
                        case rel => exact ⟨k + 1, by omega, by go_num, bel_drewN HBw3.out _, bel_drewN HBq3.out _⟩
                        case measure => simp [intOf]; omega
                    · have h1i : ¬ (t.1 : Int) ≤ (s.2 : Int) := by omega
                      clear hts hM
                      go_wp2_with (fail)
                      go_quiet (fail)
                      go_wp2_with (fail)
                      go_quiet (fail)
                      go_wp2_with (fail)
                      go_roundw
                      case rel => exact ⟨k + 1, by omega, by go_num, bel_drewN HBw3.out _, bel_drewN HBq3.out _⟩
                      case measure => simp [intOf]; omega
                  · rw [decide_eq_false hts] at he hne
                    simp only [Bool.not_false] at hne
                    by_cases h1 : t.1 ≤ s.2
                    · have h1i : (t.1 : Int) ≤ (s.2 : Int) := by omega
                      by_cases h2 : s.1 ≤ t.2
                      · have h2i : (s.1 : Int) ≤ (t.2 : Int) := by omega
                        have hMb : ((M : Int) == (m : Int)) = false := by
                          have : ¬ M = m := fun e => by have := hap hts e; rw [mt_iff.2 ⟨h1, h2⟩] at this; cases this
                          simp; omega
                        clear hap hsame hts
                        go_wp2_with (fail)
                        go_quiet (fail)
                        go_wp2_with (fail)
                        go_quiet (fail)
                        go_wp2_with (fail)
                        go_roundw
                        case rel => exact ⟨k + 1, by omega, by go_num, bel_drewN HBw3.out _, bel_drewN HBq3.out _⟩
                        case measure => simp [intOf]; omega
                      · have h2i : ¬ (s.1 : Int) ≤ (t.2 : Int) := by omega
                        clear hap hsame hts
                        go_wp2_with (fail)
                        go_quiet (fail)
                        go_wp2_with (fail)
                        go_quiet (fail)
                        go_wp2_with (fail)
                        go_roundw
                        case rel => exact ⟨k + 1, by omega, by go_num, bel_drewN HBw3.out _, bel_drewN HBq3.out _⟩
                        case measure => simp [intOf]; omega
                    · have h1i : ¬ (t.1 : Int) ≤ (s.2 : Int) := by omega
                      clear hap hsame hts
                      go_wp2_with (fail)
                      go_quiet (fail)
                      go_wp2_with (fail)
                      go_quiet (fail)
                      go_wp2_with (fail)
                      go_roundw
                      case rel => exact ⟨k + 1, by omega, by go_num, bel_drewN HBw3.out _, bel_drewN HBq3.out _⟩
                      case measure => simp [intOf]; omega
                · obtain rfl : k = i := by omega
                  have hnk : ¬ (k : Int) < (k : Int) := by omega
                  go_wp2_with (fail)
                  go_roundw
                  case rel => exact ⟨k + 1, by omega, by go_num, HBw3.out, HBq3.out⟩
                  case measure => simp [intOf]; omega
        · obtain rfl : i = n := by omega
          have hni : ¬ (i : Int) < (i : Int) := by omega
          have hz : decide ((0 : Int) < (D : Int)) = decide ((0 : Int) < (i : Int)) := by
            have := HDz.out
            rw [decide_eq_decide]; omega
          go_wp2_with (fail)
          refine (awakeC _).mono ?_
          rintro e w9 ⟨rfl, hb9⟩
          have HB9 : Hid (Below w.heap.size w w9) := bel_of HBw.out hb9 HBw.out.size
          clear hb9
          go_wp2
          go_ret
          exact ⟨by simp [hz]; exact HDz.out, HB9.out⟩

set_option maxRecDepth 100000 in
theorem nestApart_lifted (os : Os) (started : os.Started) (H : Type) (enc : TypeId × Value → H) :
    ReturnsInHanded {} Try.checked os 3 .any (Rows.nestApartSpec.pre6 enc Try.prog Try.f3 Rows.nestApartRow.domain false) (Rows.nestApartSpec.post enc Try.prog Try.f3 false true false false) := by
  refine returnsInHanded_of_change (C := Try.checked) own started (by kernel_rfl) Try.func3
    (ChangeSpec.witness6 (enc := enc) (C := Try.checked) false ⟨#[], #[.slice none 0 0], []⟩ 8 (by kernel_rfl) (by kernel_rfl) (by kernel_rfl) (by kernel_rfl)) ?_
  intro W base args ds gs before hval0 hW hcnd _
  have hval : ∀ (j : Nat) t v, Try.f3.params[j]? = some t → args[j]? = some v → Value.okWide Try.prog W .any base t v := hval0
  have hW' := hW
  obtain ⟨p, q, hA0, hV, rfl, hfz, hnd⟩ := hW
  have hA : DataW.TrodAll enc Try.prog W 0 (fun _ => true) true Try.f3.params.toList args.toList ds p := hA0
  rw [Try.params3] at hA hval
  obtain ⟨v0, vs0, d0, ds0, p0, q0, hargs, rfl, rfl, h0, r0⟩ := trodAll_cons hA
  obtain ⟨rfl, rfl, rfl⟩ := trodAll_nil r0
  obtain rfl : args = #[v0] := by cases args; simp_all
  obtain ⟨rfl, rfl⟩ := trodVars_none hV
  have hlt0 : ∀ x ∈ p0, x.block < W.heap.size := fun x hx => by simpa using hW'.lt x (by simp [hx])
  obtain ⟨l0, s0, bd0⟩ := open_sps (hval 0 22 v0 rfl rfl) h0
  clear hA0 hval0
  simp only [List.append_nil] at hW'
  refine (nestApart_walk l0 v0 bd0 W s0).mono fun e W' ⟨he, bel⟩ => ?_
  subst he
  exact ⟨_, rfl, _, _, _, [], _, [], hW', trodAll_mk1 (shut_bool Try.underlying4 _), (trodAll_cons_mk (Below.trod laidOut (by kernel_rfl) (of_decide_eq_true (by kernel_rfl)) h0 bel hlt0) trodAll_mk0), rfl, bel.frame _, fun h => by cases h⟩

/-- The given statement. -/
theorem nestApart_holds : Rows.NestApartSaid :=
  OpenClaim.holds_of_wide 3 Try.f3 rfl rfl rfl rfl rfl rfl rfl ⟨rfl, rfl, rfl, rfl, rfl⟩ rfl rfl rfl rfl rfl (by kernel_rfl) Try.func3 (by kernel_rfl)
    (of_decide_eq_true (by kernel_rfl)) (by unfold Func.isWrapper; first | (rw [if_pos (by decide +kernel)]; kernel_rfl) | (rw [if_neg (by decide +kernel)]; exact ⟨rfl, rfl⟩))
    (fun os started H enc _ => nestApart_lifted os started H enc)
#print axioms nestApart_holds
end Go.Proofs.Ytcjpjofoddpfhaa
