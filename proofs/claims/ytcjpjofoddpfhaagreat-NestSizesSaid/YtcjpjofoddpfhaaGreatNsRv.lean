/-
  The document's unlike.
-/
import Derived.Test.YtcjpjofoddpfhaaGreatNsRu
namespace Go.Proofs.YtcjpjofoddpfhaaGreat
open Go.RowKit
set_option linter.unusedVariables false
set_option linter.unusedSimpArgs false

theorem rowS_src_at {w : World} {b g n cap : Nat} {l : List (Nat × Nat)} (h : RowS w b (.slice (some ⟨g, 0, none⟩) n cap) l) {k : Nat} (hk : k < l.length) : w.cell? ⟨g, k * 2, none⟩ = some (.int .u16 ((l[k]'hk).1 : Int)) ∧ w.cell? ⟨g, k * 2 + 1, none⟩ = some (.int .u16 ((l[k]'hk).2 : Int)) := (rowCellsS h hk).1
set_option maxRecDepth 20000 in
set_option maxHeartbeats 4000000 in
theorem runlikeC (l : List (Nat × Nat)) (v : Value) (w : World) (hs : SrcS w v l) (hl : l.length ≤ 16777216) :
    Calls Tryz.prog 29 #[v] w fun e w' => ∃ (v' : Value) (u : List (Nat × Nat)), e = .returned v' ∧ InO u ∧ (∀ x, x ∈ u ↔ x ∈ l) ∧ RowS w' w.heap.size v' u ∧ Below w.heap.size w w' := by
  have HS : Hid (SrcS w v l) := hs
  obtain ⟨ad, cap, rfl, _, _⟩ := hs
  obtain ⟨n, hn⟩ : ∃ n, n = l.length := ⟨_, rfl⟩
  rw [← hn] at HS hl ⊢
  have Hn : Hid (n = l.length) := hn
  clear hn
  go_enter Tryz.func29, Tryz.ntmps29
  go_wp2_with (fail)
  go_loopw [3, 4] (fun s3 s4 wr => ∃ (i : Nat) (v3 : Value) (u : List (Nat × Nat)), i ≤ n ∧ v3 = s3 ∧ s4 = .int .i64 (i : Int) ∧ Hid (InO u) ∧ Hid (∀ x, x ∈ u ↔ x ∈ l.take i) ∧ u.length ≤ i ∧ Hid (RowS wr w.heap.size v3 u) ∧ Hid (Below w.heap.size w wr)) (fun _ s4 _ => n - (intOf s4).toNat)
  case atStart => exact ⟨0, _, [], Nat.zero_le _, rfl, rfl, List.Pairwise.nil, (fun x => by simp), Nat.le_refl _, World.ownsRow_nil _ _ _ _, Below.refl _ _⟩
  case round =>
    obtain ⟨i, v3, u, hi, rfl, rfl, HU, HM, hui, HR, HB⟩ := hrel
    by_cases hlt : i < n
    · have hlt' : i < l.length := by rw [← Hn.out]; exact hlt
      have hlti : (i : Int) < (n : Int) := by omega
      obtain ⟨g, off, rfl, c0, c1⟩ := (srcS_at HS.out).2 HB.out i hlt'
      have hm : ∀ x, x ∈ l.take (i + 1) ↔ x = l[i] ∨ x ∈ u := fun x => by rw [take_at hlt', List.mem_append, List.mem_singleton, HM.out x]; exact Or.comm
      obtain ⟨s, hs⟩ : ∃ s, s = l[i] := ⟨_, rfl⟩
      rw [← hs] at c0 c1 hm
      have HI : Hid (s = l[i]) := hs
      have HM1 : Hid (∀ x, x ∈ l.take (i + 1) ↔ x = s ∨ x ∈ u) := hm
      obtain ⟨a3, c3, rfl, hc3, _⟩ := HR.out.form
      obtain ⟨m, hmm⟩ : ∃ m, m = u.length := ⟨_, rfl⟩
      rw [← hmm] at HR hui ⊢
      have Hm : Hid (m = u.length) := hmm
      clear hm hs hmm HM hc3
      go_wp2_with (fail)
      generalize wr = V1 at *
      go_loopw [5] (fun s5 wr => ∃ k : Nat, k ≤ m ∧ s5 = .int .i64 (k : Int) ∧ Hid (∀ j (hj : j < u.length), j < k → ahd u[j] s) ∧ Hid (RowS wr w.heap.size (.slice a3 m c3) u) ∧ Hid (Below w.heap.size w wr)) (fun s5 _ => m - (intOf s5).toNat)
      case atStart => exact ⟨0, Nat.zero_le _, rfl, (fun j _ hj => by omega), HR.out, HB.out⟩
      case round =>
        obtain ⟨k, hk, rfl, HA, HR1, HB1⟩ := hrel
        clear HR HB c0 c1
        obtain ⟨g', off', e', c0, c1⟩ := (srcS_at HS.out).2 HB1.out i hlt'
        injection e' with e'
        injection e' with e1 e2
        subst e1 e2
        rw [← HI.out] at c0 c1
        by_cases hltk : k < m
        · have hltk' : k < u.length := by rw [← Hm.out]; exact hltk
          have hltki : (k : Int) < (m : Int) := by omega
          obtain ⟨a', c', e', _, hf⟩ := HR1.out.form
          injection e' with e1 e2 e3
          subst e1 e3
          clear e2
          obtain ⟨g3, rfl, _, _, hcell⟩ := hf (by omega)
          have d0 := hcell k hltk' 0 (by omega)
          have d1 := hcell k hltk' 1 (by omega)
          simp only [encS, List.getElem?_cons_zero, List.getElem?_cons_succ, Nat.add_zero] at d0 d1
          obtain ⟨t, ht⟩ : ∃ t, t = u[k] := ⟨_, rfl⟩
          rw [← ht] at d0 d1
          have Ht : Hid (t = u[k]) := ht
          have hA := fun W => raheadC t s W
          have he := fun W => eqS_any t s W
          clear ht hf hcell
          have k0 : ∀ y : Kin wr, y.val.cell? ⟨g, off + i * 2, none⟩ = some (.int .u16 (s.1 : Int)) := fun y => cell_on1 y.is c0
          have k1 : ∀ y : Kin wr, y.val.cell? ⟨g, off + i * 2 + 1, none⟩ = some (.int .u16 (s.2 : Int)) := fun y => cell_on1 y.is c1
          have k2 : ∀ y : Kin wr, y.val.cell? ⟨g3, k * 2, none⟩ = some (.int .u16 (t.1 : Int)) := fun y => cell_on1 y.is d0
          have k3 : ∀ y : Kin wr, y.val.cell? ⟨g3, k * 2 + 1, none⟩ = some (.int .u16 (t.2 : Int)) := fun y => cell_on1 y.is d1
          have kne : Nonempty (Kin wr) := ⟨⟨_, Below.refl _ _⟩⟩
          go_upto_region 6 with (fail)
          refine wp_region_kin wr (Below.refl _ _) (by kernel_rfl) (by kernel_rfl) ?_
          repeat (go_big_quiet_step (first | (go_at_call 54; exact kin_call (hA _))))
          refine wpQuiet_nil ?_
          rintro wq ⟨⟨xq, hxq⟩, hyq⟩
          have hq : Below wr.heap.size wr wq := by rw [hyq]; exact hxq
          have HR2 : Hid (RowS wq w.heap.size (.slice (some ⟨g3, 0, none⟩) m c3) u) := HR1.out.on hq
          have HB2 : Hid (Below w.heap.size w wq) := bel_of HB1.out hq HB1.out.size
          have c0' := cell_on1 hq c0
          have c1' := cell_on1 hq c1
          have d0' := cell_on1 hq d0
          have d1' := cell_on1 hq d1
          clear hyq hxq xq kne k0 k1 k2 k3 hq c0 c1 d0 d1 hA
          cases hah : ahB t s with
          | true =>
            have HA2 : Hid (∀ j (hj : j < u.length), j < k + 1 → ahd u[j] s) := fun j hj hjk => by
              by_cases e : j = k
              · subst e; rw [← Ht.out]; exact ahB_iff.1 hah
              · exact HA.out j hj (by omega)
            clear hah he
            go_wp2_with (fail)
            go_roundw
            case rel => exact ⟨k + 1, by omega, by go_num, HA2.out, HR2.out, HB2.out⟩
            case measure => simp [intOf]; omega
          | false =>
            have Hno : Hid (¬ ahd t s) := fun e => by rw [ahB_iff.2 e] at hah; cases hah
            clear hah
            by_cases hts : t = s
            · rw [decide_eq_true hts] at he
              have HM2 : Hid (∀ x, x ∈ u ↔ x ∈ l.take (i + 1)) := fun x => by
                rw [HM1.out x]
                refine ⟨.inr, fun h => h.elim (fun e => ?_) id⟩
                rw [e, ← hts, Ht.out]; exact List.getElem_mem _
              clear hts
              go_wp2_with (fail)
              go_quiet (fail)
              go_wp2_with (fail)
              go_roundw
              case rel => exact ⟨i + 1, _, u, by omega, rfl, by go_num, HU.out, HM2.out, (by have := Hm.out; omega), HR2.out, bel_drewN HB2.out _⟩
              case measure => simp [intOf]; omega
            · rw [decide_eq_false hts] at he
              have Hnx : Hid (∀ hk : k < u.length, ahd s u[k]) := fun hk => by rw [← Ht.out]; exact ahd_tot Hno.out hts
              clear hts
              go_wp2_with (fail)
              go_quiet (fail)
              go_upto_region 9 with (fail)
              have HRt : Hid (RowS (wq.drewN nq) w.heap.size (.slice (some ⟨g3, 0, none⟩) m c3) u) := HR2.out
              have HBt : Hid (Below w.heap.size w (wq.drewN nq)) := bel_drewN HB2.out _
              clear HR2 HB2 c0' c1' d0' d1' he
              generalize hWt : wq.drewN nq = Wt at *
              clear hWt
              have hone : Hid (RowS (Wt.alloc (.cells #[.int .u16 0, .int .u16 0] 47)) w.heap.size (.slice (some ⟨Wt.heap.size, 0, none⟩) 1 1) [(0, 0)]) := RowS.one Wt _ (0, 0) HBt.out.size
              have HR5 : Hid (RowS (Wt.alloc (.cells #[.int .u16 0, .int .u16 0] 47)) w.heap.size (.slice (some ⟨g3, 0, none⟩) m c3) u) := HRt.out.alloc _
              have HB5 : Hid (Below w.heap.size w (Wt.alloc (.cells #[.int .u16 0, .int .u16 0] 47))) := HBt.out.alloc HBt.out.size _
              have Hlen : Hid (u.length + [((0, 0) : Nat × Nat)].length ≤ 4294967296) := by show u.length + 1 ≤ 4294967296; have := Hm.out; omega
              clear HRt HBt
              go_upto_region 10 with (at_builtin; refine wpList_appendS rfl (.tmp 45) (.tmp 47) rfl w.heap.size _ u rfl HR5.out w.heap.size _ [(0, 0)] rfl hone.out HB5.out.size Hlen.out ?_; intro v6 w6 hr6 hg6)
              have HB6 : Hid (Below w.heap.size w w6) := HB5.out.grown hg6 HB5.out.size (fun q hq => (HR5.out.lt q hq).1)
              have hr6' : RowS w6 w.heap.size v6 (insS u m (0, 0)) := by
                have e : insS u m (0, 0) = u ++ [(0, 0)] := by unfold insS; rw [Hm.out, List.take_length, List.drop_length, List.append_nil]
                rw [e]; exact hr6
              obtain ⟨g6, c6, rfl, hc6, hg6b, _⟩ := hr6'.some (by rw [insS_len (by rw [← Hm.out]; exact Nat.le_refl _)]; omega)
              have el : (insS u m (0, 0)).length = m + 1 := by rw [insS_len (by rw [← Hm.out]; exact Nat.le_refl _), ← Hm.out]
              rw [el] at hr6' hc6 ⊢
              have HR6 : Hid (RowS w6 w.heap.size (.slice (some ⟨g6, 0, none⟩) (m + 1) c6) (insS u m (0, 0))) := hr6'
              have Hg6 : Hid (w.heap.size ≤ g6) := hg6b
              clear hr6 hg6 hr6' hone HR5 HB5 el hc6 hg6b
              have hm1 : ((m + 1 : Nat) : Int) - 1 = (m : Int) := by omega
              have hmx : wrap64 (((m + 1 : Nat) : Int) - 1) = (m : Int) := by unfold wrap64; omega
              obtain ⟨M, hM⟩ : ∃ M, M = m + 1 := ⟨_, rfl⟩
              rw [← hM] at hm1 hmx HR6 ⊢
              have HMM : Hid (M = m + 1) := hM
              clear hM
              go_wp2_with (fail)
              generalize w6 = V6 at *
              go_loopw [6] (fun s6 wr => ∃ (j : Nat) (x : Nat × Nat), k ≤ j ∧ j ≤ m ∧ s6 = .int .i64 (j : Int) ∧ Hid (RowS wr w.heap.size (.slice (some ⟨g6, 0, none⟩) M c6) (insS u j x)) ∧ Hid (Below w.heap.size w wr)) (fun s6 _ => (intOf s6).toNat)
              case atStart => exact ⟨m, (0, 0), by omega, Nat.le_refl _, (by first | rfl | (rw [hmx]) | simp [hm1]), HR6.out, HB6.out⟩
              case round =>
                obtain ⟨j, x, hkj, hjm, rfl, HRj, HBj⟩ := hrel
                clear HR6 HB6 hm1 hmx
                by_cases hgt : k < j
                · obtain ⟨j', rfl⟩ : ∃ j', j = j' + 1 := ⟨j - 1, by omega⟩
                  have hgti : (k : Int) < ((j' + 1 : Nat) : Int) := by omega
                  have hju : j' < u.length := by have := Hm.out; omega
                  obtain ⟨f0, f1⟩ := rowS_src_at HRj.out (k := j') (by rw [insS_len (by omega)]; omega)
                  rw [insS_at hju] at f0 f1
                  have Hdn : Hid ((insS u (j' + 1) x).take (j' + 1) ++ [u[j']] ++ (insS u (j' + 1) x).drop (j' + 1 + [u[j']].length) = insS u j' u[j']) := by
                    show _ = _
                    rw [insS_put (by omega), insS_down hju]
                  have hjM : j' + 1 < M := by have := HMM.out; omega
                  have hjMi : (j' : Int) + 1 < (M : Int) := by omega
                  have hjMi2 : (j' : Int) < (M : Int) := by omega
                  have hj0 : (0 : Int) ≤ (j' : Int) + 1 := by omega
                  have hjn : ((j' : Int) + 1).toNat = j' + 1 := by omega
                  generalize hy : u[j'] = y at *
                  have Hy : Hid _ := hy
                  clear hy
                  go_wp2_with (refine wpList_storeS rfl (.tmp 64) (.tmp 63) rfl w.heap.size g6 M c6 _ HRj.out (j' + 1) hjM y rfl rfl ?_; intro w7 hr7 hg7)
                  have HR7 : Hid (RowS w7 w.heap.size (.slice (some ⟨g6, 0, none⟩) M c6) (insS u j' y)) := by rw [Hdn.out] at hr7; exact hr7
                  have HB7 : Hid (Below w.heap.size w w7) := HBj.out.grown hg7 HBj.out.size (fun q hq => by injection hq with e; have := Hg6.out; omega)
                  clear hr7 hg7
                  go_roundw
                  case rel => exact ⟨j', y, by omega, by omega, by go_num, HR7.out, HB7.out⟩
                  case measure => simp [intOf]
                · obtain rfl : j = k := by omega
                  have hnj : ¬ (j : Int) < (j : Int) := by omega
                  obtain ⟨g', off', e', c0, c1⟩ := (srcS_at HS.out).2 HBj.out i hlt'
                  injection e' with e'
                  injection e' with e1 e2
                  subst e1 e2
                  rw [← HI.out] at c0 c1
                  have hjM : j < M := by have := HMM.out; omega
                  have hjMi : (j : Int) < (M : Int) := by omega
                  have Hdn : Hid ((insS u j x).take j ++ [s] ++ (insS u j x).drop (j + [s].length) = insS u j s) := insS_put (by have := Hm.out; omega) _ _
                  go_wp2_with (refine wpList_storeS rfl (.tmp 71) (.tmp 70) rfl w.heap.size g6 M c6 _ HRj.out j hjM s rfl rfl ?_; intro w8 hr8 hg8)
                  have HR8 : Hid (RowS w8 w.heap.size (.slice (some ⟨g6, 0, none⟩) M c6) (insS u j s)) := by rw [Hdn.out] at hr8; exact hr8
                  have HB8 : Hid (Below w.heap.size w w8) := HBj.out.grown hg8 HBj.out.size (fun q hq => by injection hq with e; have := Hg6.out; omega)
                  clear hr8 hg8
                  go_roundw
                  case rel => exact ⟨i + 1, _, insS u j s, by omega, rfl, by go_num, insS_ino HU.out (by have := Hm.out; omega) HA.out Hnx.out, (fun x => by rw [HM1.out x]; exact insS_mem), (by rw [insS_len (by have := Hm.out; omega)]; have := Hm.out; omega), HR8.out, HB8.out⟩
                  case measure => simp [intOf]; omega
        · obtain rfl : k = m := by omega
          have hnk : ¬ (k : Int) < (k : Int) := by omega
          have Hnx : Hid (∀ hk : k < u.length, ahd s u[k]) := fun hk => by have := Hm.out; omega
          go_wp2_with (fail)
          go_quiet (fail)
          generalize nq = n1 at *
          go_wp2_with (fail)
          go_quiet (fail)
          go_upto_region 9 with (fail)
          have HRt : Hid (RowS ((wr.drewN n1).drewN nq) w.heap.size (.slice a3 k c3) u) := HR1.out
          have HBt : Hid (Below w.heap.size w ((wr.drewN n1).drewN nq)) := bel_drewN (bel_drewN HB1.out _) _
          clear HR1 HB1 c0 c1
          generalize hWt : (wr.drewN n1).drewN nq = Wt at *
          clear hWt
          have hone : Hid (RowS (Wt.alloc (.cells #[.int .u16 0, .int .u16 0] 47)) w.heap.size (.slice (some ⟨Wt.heap.size, 0, none⟩) 1 1) [(0, 0)]) := RowS.one Wt _ (0, 0) HBt.out.size
          have HR5 : Hid (RowS (Wt.alloc (.cells #[.int .u16 0, .int .u16 0] 47)) w.heap.size (.slice a3 k c3) u) := HRt.out.alloc _
          have HB5 : Hid (Below w.heap.size w (Wt.alloc (.cells #[.int .u16 0, .int .u16 0] 47))) := HBt.out.alloc HBt.out.size _
          have Hlen : Hid (u.length + [((0, 0) : Nat × Nat)].length ≤ 4294967296) := by show u.length + 1 ≤ 4294967296; have := Hm.out; omega
          clear HRt HBt
          go_upto_region 10 with (at_builtin; refine wpList_appendS rfl (.tmp 45) (.tmp 47) rfl w.heap.size _ u rfl HR5.out w.heap.size _ [(0, 0)] rfl hone.out HB5.out.size Hlen.out ?_; intro v6 w6 hr6 hg6)
          have HB6 : Hid (Below w.heap.size w w6) := HB5.out.grown hg6 HB5.out.size (fun q hq => (HR5.out.lt q hq).1)
          have hr6' : RowS w6 w.heap.size v6 (insS u k (0, 0)) := by
            have e : insS u k (0, 0) = u ++ [(0, 0)] := by unfold insS; rw [Hm.out, List.take_length, List.drop_length, List.append_nil]
            rw [e]; exact hr6
          obtain ⟨g6, c6, rfl, hc6, hg6b, _⟩ := hr6'.some (by rw [insS_len (by rw [← Hm.out]; exact Nat.le_refl _)]; omega)
          have el : (insS u k (0, 0)).length = k + 1 := by rw [insS_len (by rw [← Hm.out]; exact Nat.le_refl _), ← Hm.out]
          rw [el] at hr6' hc6 ⊢
          have HR6 : Hid (RowS w6 w.heap.size (.slice (some ⟨g6, 0, none⟩) (k + 1) c6) (insS u k (0, 0))) := hr6'
          have Hg6 : Hid (w.heap.size ≤ g6) := hg6b
          clear hr6 hg6 hr6' hone HR5 HB5 el hc6 hg6b
          have hm1 : ((k + 1 : Nat) : Int) - 1 = (k : Int) := by omega
          have hmx : wrap64 (((k + 1 : Nat) : Int) - 1) = (k : Int) := by unfold wrap64; omega
          obtain ⟨M, hM⟩ : ∃ M, M = k + 1 := ⟨_, rfl⟩
          rw [← hM] at hm1 hmx HR6 ⊢
          have HMM : Hid (M = k + 1) := hM
          clear hM
          go_wp2_with (fail)
          generalize w6 = V6 at *
          go_loopw [6] (fun s6 wr => ∃ (j : Nat) (x : Nat × Nat), k ≤ j ∧ j ≤ k ∧ s6 = .int .i64 (j : Int) ∧ Hid (RowS wr w.heap.size (.slice (some ⟨g6, 0, none⟩) M c6) (insS u j x)) ∧ Hid (Below w.heap.size w wr)) (fun s6 _ => (intOf s6).toNat)
          case atStart => exact ⟨k, (0, 0), by omega, Nat.le_refl _, (by first | rfl | (rw [hmx]) | simp [hm1]), HR6.out, HB6.out⟩
          case round =>
            obtain ⟨j, x, hkj, hjm, rfl, HRj, HBj⟩ := hrel
            clear HR6 HB6 hm1 hmx
            by_cases hgt : k < j
            · exact absurd hgt (by omega)
            · obtain rfl : j = k := by omega
              have hnj : ¬ (j : Int) < (j : Int) := by omega
              obtain ⟨g', off', e', c0, c1⟩ := (srcS_at HS.out).2 HBj.out i hlt'
              injection e' with e'
              injection e' with e1 e2
              subst e1 e2
              rw [← HI.out] at c0 c1
              have hjM : j < M := by have := HMM.out; omega
              have hjMi : (j : Int) < (M : Int) := by omega
              have Hdn : Hid ((insS u j x).take j ++ [s] ++ (insS u j x).drop (j + [s].length) = insS u j s) := insS_put (by have := Hm.out; omega) _ _
              go_wp2_with (refine wpList_storeS rfl (.tmp 71) (.tmp 70) rfl w.heap.size g6 M c6 _ HRj.out j hjM s rfl rfl ?_; intro w8 hr8 hg8)
              have HR8 : Hid (RowS w8 w.heap.size (.slice (some ⟨g6, 0, none⟩) M c6) (insS u j s)) := by rw [Hdn.out] at hr8; exact hr8
              have HB8 : Hid (Below w.heap.size w w8) := HBj.out.grown hg8 HBj.out.size (fun q hq => by injection hq with e; have := Hg6.out; omega)
              clear hr8 hg8
              go_roundw
              case rel => exact ⟨i + 1, _, insS u j s, by omega, rfl, by go_num, insS_ino HU.out (by have := Hm.out; omega) HA.out Hnx.out, (fun x => by rw [HM1.out x]; exact insS_mem), (by rw [insS_len (by have := Hm.out; omega)]; have := Hm.out; omega), HR8.out, HB8.out⟩
              case measure => simp [intOf]; omega
    · obtain rfl : i = n := by omega
      have hni : ¬ (i : Int) < (i : Int) := by omega
      have HM2 : Hid (∀ x, x ∈ u ↔ x ∈ l) := fun x => by have := HM.out x; rwa [Hn.out, List.take_length] at this
      go_wp2
      go_ret
      exact ⟨_, rfl, u, HU.out, fun a b => HM2.out (a, b), HR.out, HB.out⟩
end Go.Proofs.YtcjpjofoddpfhaaGreat
