/-
  LexScans, walked: any calls of two scanners. Written by tools/mkLxLs.py.
-/
import Derived.Test.YtpbbeemlaigimaaDoorLxDc
import Derived.Test.YtpbbeemlaigimaaDoorLxCu
import Derived.Test.YtpbbeemlaigimaaDoorLxA
import Derived.Deep.DeepCutAuto
namespace Go.Proofs.YtpbbeemlaigimaaDoor
open Go.RowKit
set_option linter.unusedVariables false
set_option linter.unusedSimpArgs false

set_option maxRecDepth 20000 in
set_option maxHeartbeats 8000000 in
theorem lexScans_walk (s : ByteArray) (ws : s.size ≤ maxLen) (l : List (Int × Int)) (v : Value) (hwf : ∀ p ∈ l, (-9223372036854775808 ≤ p.1 ∧ p.1 ≤ 9223372036854775807) ∧ (-9223372036854775808 ≤ p.2 ∧ p.2 ≤ 9223372036854775807)) (w : World) (hsrc : SrcS w v l) (hg : Hnd w) :
    Calls Tryd.prog 4 #[.string s, v] w fun e w' => e = .returned (.bool true) ∧ Below w.heap.size w w' := by
  obtain ⟨sad, scap, rfl, hat⟩ := hsrc
  obtain ⟨z, hz⟩ : ∃ z, z = s.size := ⟨_, rfl⟩
  have hlen := lenS s z hz
  obtain ⟨m, hm⟩ : ∃ m, m = l.length := ⟨_, rfl⟩
  have HM : Hid (m = l.length) := hm
  by_cases hbig : 16777216 < s.size
  · have hbig' : (16777216 : Int) < (z : Int) := by omega
    clear hz hbig hg hat hwf ws
    go_enter Tryd.func4, Tryd.ntmps4
    go_wp2_with (fail)
    go_ret
    exact ⟨rfl, Below.refl _ _⟩
  · have hbig' : ¬ (16777216 : Int) < (z : Int) := by omega
    by_cases hst : 1000 < m
    · have hst' : (1000 : Int) < (m : Int) := by omega
      rw [← hm]
      clear hz hbig hg hat hwf ws hm HM
      go_enter Tryd.func4, Tryd.ntmps4
      go_wp2_with (fail)
      go_ret
      exact ⟨rfl, Below.refl _ _⟩
    · have hst' : ¬ (1000 : Int) < (m : Int) := by omega
      have HSZ : Hid (s.size ≤ 16777216) := by show _ ≤ _; omega
      have HL0 : Hid ((lexT s).1.length ≤ 70000) := by
        show _ ≤ _
        by_cases h : s.size ≤ 65536
        · have := (lexT_ok s h).2.1; omega
        · unfold lexT; rw [if_pos (by omega)]; simp
      have HG : Hid (Hnd w) := hg
      have HSrc : Hid (0 < l.length → ∃ b o : Nat, sad = some ⟨b, o, none⟩ ∧ ∀ k (hk : k < l.length), w.cell? ⟨b, o + k * 2, none⟩ = some (.int .i64 (l[k]'hk).1) ∧ w.cell? ⟨b, o + k * 2 + 1, none⟩ = some (.int .i64 (l[k]'hk).2)) := hat
      have HWF : Hid (∀ p ∈ l, (-9223372036854775808 ≤ p.1 ∧ p.1 ≤ 9223372036854775807) ∧ (-9223372036854775808 ≤ p.2 ∧ p.2 ≤ 9223372036854775807)) := hwf
      have hA := rallL s w HSZ.out
      have hNw := fun W (h : Hnd W) => newC s W HSZ.out h
      generalize lexT s = LL at *
      obtain ⟨L, er⟩ := LL
      dsimp only at hA hNw HL0
      have HL : Hid (L.length ≤ 70000) := HL0.out
      rw [← hm]
      clear hz hbig hg hat hwf ws hm HL0
      go_enter Tryd.func4, Tryd.ntmps4
      go_wp2_with (fail)
      refine hA.mono ?_
      rintro e w1 ⟨u, rfl, hrow1, hb1⟩
      obtain ⟨uad, ucap, hu, _, _⟩ := hrow1.form
      obtain ⟨n, hn⟩ : ∃ n, n = L.length := ⟨_, rfl⟩
      have HN : Hid (n = L.length) := hn
      rw [← hn] at hu
      subst hu
      have hlu := hrow1.lt
      have hG1 : Hnd (w1.alloc (.cells #[.int .i64 (er.e : Int), .int .i64 (er.l : Int), .int .i64 (er.c : Int)] 25)) := (HG.out.on hb1).alloc _
      have hz1 := hb1.size
      have HR1 : Hid (RowT (w1.alloc (.cells #[.int .i64 (er.e : Int), .int .i64 (er.l : Int), .int .i64 (er.c : Int)] 25)) 0 (.slice uad n ucap) L) := (hrow1.alloc _).base (Nat.zero_le _)
      have HY1 : Hid ((w1.alloc (.cells #[.int .i64 (er.e : Int), .int .i64 (er.l : Int), .int .i64 (er.c : Int)] 25)).heap[w1.heap.size]? = some (.cells #[.int .i64 (er.e : Int), .int .i64 (er.l : Int), .int .i64 (er.c : Int)] 25)) := blk_new w1 _
      have HB1 : Hid (Below w.heap.size w (w1.alloc (.cells #[.int .i64 (er.e : Int), .int .i64 (er.l : Int), .int .i64 (er.c : Int)] 25))) := hb1.alloc hz1 _
      have HZ1 : Hid ((w1.alloc (.cells #[.int .i64 (er.e : Int), .int .i64 (er.l : Int), .int .i64 (er.c : Int)] 25)).heap.size = w1.heap.size + 1) := by show _ = _; simp
      have HU1 : Hid (∀ k, (Value.slice uad n ucap).ownBlock = some k → k < w1.heap.size) := fun k hk => (hlu k hk).2
      have HG1 : Hid (Hnd (w1.alloc (.cells #[.int .i64 (er.e : Int), .int .i64 (er.l : Int), .int .i64 (er.c : Int)] 25))) := hG1
      clear hn hrow1 hlu hb1 hA hG1
      go_wp2_with (fail)
      refine (hNw _ HG1.out).mono ?_
      rintro e w2 ⟨S1, v1, rfl, hs1, hrv1, hl1, hn1, hb2⟩
      have hz2 := hb2.size
      rw [HZ1.out] at hz2 hl1
      have hS1l := blk_lt hs1
      have hv1 := hrv1.lt
      rw [HZ1.out] at hv1
      have HS2 : Hid (Scn w2 S1 v1 0 er ∧ RowT w2 0 v1 L ∧ RowT w2 0 (.slice uad n ucap) L ∧ w2.heap[w1.heap.size]? = some (.cells #[.int .i64 (er.e : Int), .int .i64 (er.l : Int), .int .i64 (er.c : Int)] 25) ∧ Below w.heap.size w w2 ∧ Hnd w2) := ⟨hs1, hrv1.base (Nat.zero_le _), HR1.out.on hb2, blk_on HY1.out hb2, HB1.out.trans (hb2.mono HB1.out.size), HG1.out.on hb2⟩
      have HV1 : Hid (∀ k, v1.ownBlock = some k → w1.heap.size + 1 ≤ k ∧ k < w2.heap.size) := hv1
      have HN1 : Hid (some S1 ≠ v1.ownBlock) := hn1
      clear hs1 hrv1 hb2 hv1 hn1
      go_wp2_with (fail)
      refine (hNw _ HS2.out.2.2.2.2.2).mono ?_
      rintro e w3 ⟨S2, v2, rfl, hs2, hrv2, hl2, hn2, hb3⟩
      have hv2 := hrv2.lt
      have HFar : Hid (Far w S1 S2 w1.heap.size v1 v2 (.slice uad n ucap)) := by
        refine ⟨by omega, by omega, by omega, HN1.out, fun h => ?_, fun h => ?_, fun h => ?_, hn2, fun h => ?_, by omega, by omega, HG.out.lt⟩
        · have := (hv2 _ h.symm).1; omega
        · have := HU1.out _ h.symm; omega
        · have := (HV1.out _ h.symm).2; omega
        · have := HU1.out _ h.symm; omega
      have HT : Hid (Two w w3 S1 S2 w1.heap.size v1 v2 (.slice uad n ucap) L er 0 0) := by
        obtain ⟨q1, q2, q3, q4, q5, q6⟩ := HS2.out
        exact ⟨q5.trans (hb3.mono q5.size), blk_on q1 hb3, hs2, q2.on hb3, hrv2.base (Nat.zero_le _), q3.on hb3, blk_on q4 hb3, q6.on hb3, Nat.zero_le _, Nat.zero_le _⟩
      have HSC : Hid (n = L.length ∧ n ≤ 70000) := ⟨HN.out, by rw [HN.out]; exact HL.out⟩
      have hn7 : (n : Int) ≤ 70000 := by have := HSC.out.2; omega
      generalize w1.heap.size = Y at HFar HT
      clear hs2 hrv2 hb3 hv2 hn2 hl2 hl1 hz2 hz1 hS1l HV1 HN1 HU1 HG1 HB1 HY1 HR1 HZ1 HS2 hNw
      go_wp2_with (fail)
      go_loopw [9, 10, 11] (fun av gv iv wr => ∃ a g i : Nat, i ≤ m ∧ av = .int .i64 (a : Int) ∧ gv = .int .i64 (g : Int) ∧ iv = .int .i64 (i : Int) ∧ Hid (Two w wr S1 S2 Y v1 v2 (.slice uad n ucap) L er a g)) (fun _ _ iv _ => m - (intOf iv).toNat)
      case atStart => exact ⟨0, 0, 0, Nat.zero_le _, rfl, rfl, rfl, HT.out⟩
      case round =>
        obtain ⟨a, g, i, him, rfl, rfl, rfl, HT⟩ := hrel
        have HLA : Hid (a ≤ L.length ∧ g ≤ L.length) := ⟨HT.out.la, HT.out.lg⟩
        have hga : (a : Int) ≤ 200000 := by have := HLA.out.1; have := HL.out; omega
        have hgg : (g : Int) ≤ 200000 := by have := HLA.out.2; have := HL.out; omega
        by_cases hlt : i < m
        · have hlt' : (i : Int) < (m : Int) := by omega
          have hi0 : (0 : Int) ≤ (i : Int) := by omega
          have hk : i < l.length := by rw [← HM.out]; exact hlt
          obtain ⟨sb, so, hsd, cc⟩ := HSrc.out (by omega)
          subst hsd
          obtain ⟨cc0, cc1⟩ := cc i hk
          have hwf := HWF.out (l[i]'hk) (List.getElem_mem hk)
          obtain ⟨p, hp⟩ : ∃ p, p = l[i]'hk := ⟨_, rfl⟩
          rw [← hp] at cc0 cc1 hwf
          have HC0 : Hid (w.cell? ⟨sb, so + i * 2, none⟩ = some (.int .i64 p.1)) := cc0
          have HC1 : Hid (w.cell? ⟨sb, so + i * 2 + 1, none⟩ = some (.int .i64 p.2)) := cc1
          have y0 : wr.cell? ⟨sb, so + i * 2, none⟩ = some (.int .i64 p.1) := cell_on1 HT.out.bel cc0
          have y1 : wr.cell? ⟨sb, so + i * 2 + 1, none⟩ = some (.int .i64 p.2) := cell_on1 HT.out.bel cc1
          obtain ⟨pn, pb⟩ := p
          clear hp cc hk cc0 cc1
          dsimp only at y0 y1 hwf HC0 HC1
          by_cases hN : pn ≤ 0
          · by_cases hA : pb < 0 ∨ (a : Int) < pb
            · have hBk := backArg wr S1 a v1 er pb HT.out.s1 hA
              by_cases hA1 : pb < 0
              · go_wp2_with (go_at_call 16; refine hBk.mono ?_; rintro e w4 ⟨rfl, hb4⟩; have HB4 : Hid (Below wr.heap.size wr w4) := hb4; clear hb4)
                go_roundw
                case rel => exact ⟨a, g, i + 1, by omega, rfl, rfl, by go_num, HT.out.on HB4.out⟩
                case measure => simp [intOf]; omega
              · have hA2 : (a : Int) < pb := by omega
                go_wp2_with (go_at_call 16; refine hBk.mono ?_; rintro e w4 ⟨rfl, hb4⟩; have HB4 : Hid (Below wr.heap.size wr w4) := hb4; clear hb4)
                go_roundw
                case rel => exact ⟨a, g, i + 1, by omega, rfl, rfl, by go_num, HT.out.on HB4.out⟩
                case measure => simp [intOf]; omega
            · obtain ⟨nn, hnn⟩ : ∃ nn : Nat, (nn : Int) = pb := ⟨pb.toNat, by omega⟩
              subst hnn
              have hle : nn ≤ a := by omega
              have hBk := backOk wr S1 a v1 er nn HT.out.s1 hle (by omega)
              have h1 : ¬ (nn : Int) < 0 := by omega
              have h2 : ¬ (a : Int) < (nn : Int) := by omega
              have HLE : Hid (nn ≤ a) := hle
              clear hA hle
              go_wp2_with (go_at_call 16; refine hBk.mono ?_; rintro e w4 ⟨rfl, hs4, hb4⟩; have HS4 : Hid (Scn w4 S1 v1 (a - nn) er) := hs4; have HB4 : Hid (But S1 wr w4) := hb4; clear hb4 hs4)
              go_roundw
              case rel => exact ⟨a - nn, g, i + 1, by omega, by have := HLE.out; first | (congr 1; omega) | go_num, rfl, by go_num, HT.out.one HFar.out HB4.out HS4.out (by have := HLA.out.1; omega)⟩
              case measure => simp [intOf]; omega
          · have hN' : 0 < pn := by omega
            have hpk := fun W => pickC pn W hN' hwf.1.2
            obtain ⟨q, hq⟩ : ∃ q : Nat, q = pn.toNat % 20 := ⟨_, rfl⟩
            have hq20 : q < 20 := by rw [hq]; exact Nat.mod_lt _ (by decide)
            rw [← hq] at hpk
            clear hq hwf y1
            go_wp2_with (fail)
            go_loopw [9, 14] (fun av kv wr2 => ∃ a2 k2 : Nat, k2 ≤ q + 1 ∧ av = .int .i64 (a2 : Int) ∧ kv = .int .i64 (k2 : Int) ∧ Hid (Two w wr2 S1 S2 Y v1 v2 (.slice uad n ucap) L er a2 g)) (fun _ kv _ => 21 - (intOf kv).toNat)
            case atStart => exact ⟨a, 0, Nat.zero_le _, rfl, rfl, HT.out⟩
            case round =>
              obtain ⟨a2, k2, hk2, rfl, rfl, HT2⟩ := hrel
              have HLA2 : Hid (a2 ≤ L.length) := HT2.out.la
              have hga2 : (a2 : Int) ≤ 200000 := by have := HLA2.out; have := HL.out; omega
              have y0 : wr.cell? ⟨sb, so + i * 2, none⟩ = some (.int .i64 pn) := cell_on1 HT2.out.bel HC0.out
              obtain ⟨e0, e1, e2⟩ := w3cells HT2.out.wr
              by_cases hkq : k2 ≤ q
              · have hkq' : (k2 : Int) ≤ (q : Int) := by omega
                have hnx := lnext wr S1 a2 0 0 v1 (.slice uad n ucap) L er HT2.out.s1 HT2.out.r1 HT2.out.ru HFar.out.a1 HFar.out.au HT2.out.la (by have := HL.out; omega) HT2.out.hnd
                go_wp2_with (first | (go_at_call 17; refine (hpk _).mono ?_; rintro e w4 ⟨rfl, hw4⟩; obtain rfl := hw4.symm; clear hw4) | (go_at_call 18; refine hnx.mono ?_; rintro e w4 ⟨rfl, hs4, hb4⟩; have HS4 : Hid (Scn w4 S1 v1 (min (a2 + 1) L.length) er) := hs4; have HB4 : Hid (But S1 wr w4) := hb4; clear hb4 hs4))
                all_goals go_roundw
                all_goals first
                  | (case rel => exact ⟨min (a2 + 1) L.length, k2 + 1, by omega, by have := HN.out; first | (congr 1; omega) | go_num, by go_num, HT2.out.one HFar.out HB4.out HS4.out (Nat.min_le_right _ _)⟩)
                  | (case measure => simp [intOf]; omega)
              · have hkq' : ¬ (k2 : Int) ≤ (q : Int) := by omega
                have hnx := lnext wr S2 g 0 0 v2 (.slice uad n ucap) L er HT2.out.s2 HT2.out.r2 HT2.out.ru HFar.out.b2 HFar.out.bu HT2.out.lg (by have := HL.out; omega) HT2.out.hnd
                go_wp2_with (first | (go_at_call 17; refine (hpk _).mono ?_; rintro e w4 ⟨rfl, hw4⟩; obtain rfl := hw4.symm; clear hw4) | (go_at_call 18; refine hnx.mono ?_; rintro e w4 ⟨rfl, hs4, hb4⟩; have HS4 : Hid (Scn w4 S2 v2 (min (g + 1) L.length) er) := hs4; have HB4 : Hid (But S2 wr w4) := hb4; clear hb4 hs4))
                all_goals go_roundw
                all_goals first
                  | (case rel => exact ⟨a2, min (g + 1) L.length, i + 1, by omega, rfl, by have := HN.out; first | (congr 1; omega) | go_num, by go_num, HT2.out.two HFar.out HB4.out HS4.out (Nat.min_le_right _ _)⟩)
                  | (case measure => simp [intOf]; omega)
        · have hlt' : ¬ (i : Int) < (m : Int) := by omega
          go_wp2_with (fail)
          refine (awakeL allOk allBad _ HT.out.hnd).mono ?_
          rintro e w4 ⟨rfl, hb4⟩
          have HB4 : Hid (Below w.heap.size w w4) := HT.out.bel.trans (hb4.mono HT.out.bel.size)
          clear hb4
          go_wp2_with (fail)
          go_ret
          exact ⟨rfl, HB4.out⟩
end Go.Proofs.YtpbbeemlaigimaaDoor
