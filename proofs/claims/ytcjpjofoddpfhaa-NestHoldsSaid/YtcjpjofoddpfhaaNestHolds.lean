/-
  The law NestHolds answers true for every list of spans and every port: what Find tells holds the port, at its level, ahead of all that are alike, each span that holds the port is alike to one that it tells, and the document's examples are met (P14.5).
  Conditions: none; the law holds for every input.
-/
import Derived.Test.YtcjpjofoddpfhaaNsW
import Derived.Test.YtcjpjofoddpfhaaNsFr
namespace Go.Proofs.Ytcjpjofoddpfhaa
open Go.ChangeShapes Go.WideShapes Go.ChangeAt Go.RowKit Go.Joins
set_option linter.unusedVariables false
set_option linter.unusedSimpArgs false

set_option maxRecDepth 40000 in
set_option maxHeartbeats 8000000 in
theorem nestHolds_walk (l : List (Nat × Nat)) (v : Value) (bd : (∀ s ∈ l, Bd16 s) ∧ l.length ≤ maxLen) (p : Nat) (hp : p < 65536) (w : World) (hs : SrcS w v l) :
    Calls Try.prog 4 #[v, .int .u16 (p : Int)] w fun e w' => e = .returned (.bool true) ∧ Below w.heap.size w w' := by
  have hW := wrongC l v w hs bd.2
  have HS : Hid (SrcS w v l) := hs
  have HBd : Hid (∀ s ∈ l, Bd16 s) := bd.1
  obtain ⟨ad, cap, rfl, _, _⟩ := hs
  obtain ⟨n, hn⟩ : ∃ n, n = l.length := ⟨_, rfl⟩
  rw [← hn] at HS hW ⊢
  have Hn : Hid (n = l.length) := hn
  clear hn bd
  cases hok : okS l with
  | false =>
    rw [hok] at hW
    simp only [Bool.not_false] at hW
    clear hok
    go_enter Try.func4, Try.ntmps4
    go_wp2_with (fail)
    refine hW.mono ?_
    rintro e w1 ⟨rfl, hb1⟩
    have HB1 : Hid (Below w.heap.size w w1) := hb1
    clear hb1 hW
    go_wp2_with (fail)
    refine (awakeC _).mono ?_
    rintro e w2 ⟨rfl, hb2⟩
    have HB2 : Hid (Below w.heap.size w w2) := bel_of HB1.out hb2 HB1.out.size
    clear hb2
    go_wp2
    go_ret
    exact ⟨rfl, HB2.out⟩
  | true =>
    rw [hok] at hW
    simp only [Bool.not_true] at hW
    have Hok : Hid (okS l = true) := hok
    clear hok
    by_cases hlt : 4000 < n
    · have hlti : (4000 : Int) < (n : Int) := by omega
      go_enter Try.func4, Try.ntmps4
      go_wp2_with (fail)
      refine hW.mono ?_
      rintro e w1 ⟨rfl, hb1⟩
      have HB1 : Hid (Below w.heap.size w w1) := hb1
      clear hb1 hW
      go_wp2_with (fail)
      refine (awakeC _).mono ?_
      rintro e w2 ⟨rfl, hb2⟩
      have HB2 : Hid (Below w.heap.size w w2) := bel_of HB1.out hb2 HB1.out.size
      clear hb2
      go_wp2
      go_ret
      exact ⟨rfl, HB2.out⟩
    · have hlti : ¬ (4000 : Int) < (n : Int) := by omega
      have hnb : n ≤ 4000 := by omega
      go_enter Try.func4, Try.ntmps4
      go_wp2_with (fail)
      refine hW.mono ?_
      rintro e w1 ⟨rfl, hb1⟩
      have hL := levelsC l _ w1 (HS.out.keep hb1) (by rw [← Hn.out]; omega) HBd.out
      have HB1 : Hid (Below w.heap.size w w1) := hb1
      clear hb1 hW
      go_wp2_with (fail)
      refine hL.mono ?_
      rintro e w2 ⟨hq, hb2⟩
      rcases hq with ⟨_, v2, u, rfl, hu1, hu2, hr2⟩ | ⟨hno, rfl⟩
      rotate_left
      · rw [Hok.out] at hno; cases hno
      have HB2 : Hid (Below w.heap.size w w2) := bel_of HB1.out hb2 HB1.out.size
      have hF := findC l p _ w2 (HS.out.keep HB2.out) (by rw [← Hn.out]; omega) HBd.out
      have HR2 : Hid (SrcI w2 v2 (ofN (l.map (lvU u)))) := hr2.src
      have HU1 : Hid (InO u) := hu1
      have HU2 : Hid (∀ x, x ∈ u ↔ x ∈ l) := hu2
      clear hb2 hL hu1 hu2 hr2 HB1
      go_wp2_with (fail)
      refine hF.mono ?_
      rintro e w3 ⟨hq, hb3⟩
      rcases hq with ⟨_, v3, u', rfl, hu1, hu2, hr3⟩ | ⟨hno, rfl⟩
      rotate_left
      · rw [Hok.out] at hno; cases hno
      obtain rfl : u' = u := ino_uniq hu1 HU1.out (fun x => (hu2 x).trans (HU2.out x).symm)
      have HB3 : Hid (Below w.heap.size w w3) := bel_of HB2.out hb3 HB2.out.size
      have hD := depthC l _ w3 (HS.out.keep HB3.out) (by rw [← Hn.out]; omega) HBd.out
      have HR3 : Hid (SrcI w3 v2 (ofN (l.map (lvU u')))) := HR2.out.keep hb3
      have HF3 : Hid (SrcI w3 v3 (fnds u' l p)) := hr3.src
      clear hb3 hF hu1 hu2 hr3 HB2 HR2
      go_wp2_with (fail)
      refine hD.mono ?_
      rintro e w4 ⟨hq, hb4⟩
      rcases hq with ⟨_, u, hu1, hu2, rfl⟩ | ⟨hno, rfl⟩
      rotate_left
      · rw [Hok.out] at hno; cases hno
      obtain rfl : u = u' := ino_uniq hu1 HU1.out (fun x => (hu2 x).trans (HU2.out x).symm)
      have HB4 : Hid (Below w.heap.size w w4) := bel_of HB3.out hb4 HB3.out.size
      have HR4 : Hid (SrcI w4 v2 (ofN (l.map (lvU u)))) := HR3.out.keep hb4
      have HF4 : Hid (SrcI w4 v3 (fnds u l p)) := HF3.out.keep hb4
      have HS4 : Hid (SrcS w4 (.slice ad n cap) l) := HS.out.keep HB4.out
      clear hb4 hD hu1 hu2 HB3 HR3 HF3
      obtain ⟨a2, c2, rfl⟩ := HR4.out.len
      obtain ⟨a3, c3, rfl⟩ := HF4.out.len
      have e2 : (ofN (l.map (lvU u))).length = n := by rw [Hn.out]; simp [ofN]
      have e3 : (fnds u l p).length = dep (l.map (lvU u)) := by unfold fnds; rw [fndR_len]
      rw [e2] at HR4 ⊢
      rw [e3] at HF4 ⊢
      have Hlv : Hid (∀ k (hk : k < l.length), lvU u l[k] < dep (l.map (lvU u))) := fun k hk => dep_lt (List.mem_map.2 ⟨_, List.getElem_mem hk, rfl⟩)
      have hDb : dep (l.map (lvU u)) ≤ 4000 := by
        have h1 : u.length ≤ l.length := List.Nodup.length_le_of_subset (ino_nodup HU1.out) (fun x hx => (HU2.out x).1 hx)
        have : dep (l.map (lvU u)) ≤ u.length := dep_le (fun n hn => by
          obtain ⟨s, hs, rfl⟩ := List.mem_map.1 hn
          exact lvU_lt ((HU2.out s).2 hs))
        have := Hn.out; omega
      have HFat : Hid (∀ k (hk : k < (fnds u l p).length), (fnds u l p)[k] = fstI (qF u l p k) l.length) := fun k hk => by unfold fnds at hk ⊢; exact fndR_at hk
      have He3 : Hid ((fnds u l p).length = dep (l.map (lvU u))) := e3
      clear e2 e3
      generalize dep (l.map (lvU u)) = D at *
      go_wp2_with (fail)
      go_loopw [11] (fun vi wr => ∃ k : Nat, k ≤ D ∧ vi = .int .i64 (k : Int) ∧ wr = w4) (fun vi _ => D - (intOf vi).toNat)
      case atStart => exact ⟨0, Nat.zero_le _, rfl, rfl⟩
      case round =>
        obtain ⟨k, hk, rfl, rfl⟩ := hrel
        by_cases hltk : k < D
        · have hltki : (k : Int) < (D : Int) := by omega
          obtain ⟨g3, o3, rfl, cx⟩ := HF4.out.at (k := k) (by rw [He3.out]; exact hltk)
          rw [HFat.out] at cx
          rcases fstI_spec (qF u l p k) l.length with ⟨e, _⟩ | ⟨j, e, hj, hq, _⟩
          · rw [e] at cx
            have hn1 : ¬ (n : Int) ≤ -1 := by omega
            clear e
            go_wp2_with (fail)
            go_roundw
            case rel => exact ⟨k + 1, by omega, by go_num, trivial⟩
            case measure => simp [intOf]; omega
          · rw [e] at cx
            obtain ⟨g2, o2, rfl, cn⟩ := HR4.out.at (k := j) (by simp [ofN]; exact hj)
            rw [ofN_at, List.getElem_map] at cn
            obtain ⟨g, off, rfl, c0, c1⟩ := (srcS_at HS4.out).2 (Below.refl _ _) j hj
            have eg : l.getD j (0, 0) = l[j] := by simp [hj]
            unfold qF at hq
            rw [eg] at hq
            simp only [Bool.and_eq_true, decide_eq_true_eq] at hq
            obtain ⟨q1, q2⟩ := hq
            rw [q1] at cn
            unfold hasI at q2
            simp only [decide_eq_true_eq] at q2
            have hjn : (j : Int) < (n : Int) := by have := Hn.out; omega
            have hjn2 : ¬ (n : Int) ≤ (j : Int) := by omega
            have hj0 : (0 : Int) ≤ (j : Int) := by omega
            have hjm : ¬ (j : Int) < -1 := by omega
            generalize l[j] = s at *
            have hs1 : ¬ (p : Int) < (s.1 : Int) := by omega
            have hs2 : ¬ (s.2 : Int) < (p : Int) := by omega
            clear e eg q1 q2
            go_wp2_with (fail)
            go_roundw
            case rel => exact ⟨k + 1, by omega, by go_num, trivial⟩
            case measure => simp [intOf]; omega
        · obtain rfl : k = D := by omega
          have hni : ¬ (k : Int) < (k : Int) := by omega
          go_wp2_with (fail)
          generalize wr = V4 at *
          go_loopw [13] (fun vi wr => ∃ i : Nat, i ≤ n ∧ vi = .int .i64 (i : Int) ∧ Hid (Below w.heap.size w wr) ∧ Hid (Below V4.heap.size V4 wr)) (fun vi _ => n - (intOf vi).toNat)
          case atStart => exact ⟨0, Nat.zero_le _, rfl, HB4.out, Below.refl _ _⟩
          case round =>
            obtain ⟨i, hi, rfl, HBw, HBq⟩ := hrel
            by_cases hlti2 : i < n
            · have hlt' : i < l.length := by rw [← Hn.out]; exact hlti2
              have hlti3 : (i : Int) < (n : Int) := by omega
              obtain ⟨g, off, rfl, c0, c1⟩ := (srcS_at HS4.out).2 HBq.out i hlt'
              have hFn := fun h => fnd_at HU1.out HU2.out (p := p) hlt' h
              have hLv := Hlv.out i hlt'
              obtain ⟨g2, o2, rfl, cn⟩ := (HR4.out.keep HBq.out).at (k := i) (by simp [ofN]; exact hlt')
              rw [ofN_at, List.getElem_map] at cn
              cases hh : hasI l[i] p with
              | false =>
                have hno : ¬ ((l[i]).1 ≤ p ∧ p ≤ (l[i]).2) := by unfold hasI at hh; simpa using hh
                clear hFn hh hLv cn
                generalize l[i] = s at *
                by_cases h1 : (p : Int) < (s.1 : Int)
                · clear hno
                  go_wp2_with (fail)
                  go_roundw
                  case rel => exact ⟨i + 1, by omega, by go_num, HBw.out, HBq.out⟩
                  case measure => simp [intOf]; omega
                · have h2 : (s.2 : Int) < (p : Int) := by omega
                  clear hno
                  go_wp2_with (fail)
                  go_roundw
                  case rel => exact ⟨i + 1, by omega, by go_num, HBw.out, HBq.out⟩
                  case measure => simp [intOf]; omega
              | true =>
                obtain ⟨j, hj, ej, hji, elk⟩ := hFn hh
                obtain ⟨g3, o3, rfl, cx⟩ := (HF4.out.keep HBq.out).at (k := lvU u l[i]) (by rw [He3.out]; exact hLv)
                rw [HFat.out, ej] at cx
                obtain ⟨g', off', e', d0, d1⟩ := (srcS_at HS4.out).2 HBq.out j hj
                injection e' with e'
                injection e' with e1 e2
                subst e1 e2
                rw [elk] at d0 d1
                have hyes : (l[i]).1 ≤ p ∧ p ≤ (l[i]).2 := by unfold hasI at hh; simpa using hh
                have hjn : (j : Int) < (n : Int) := by have := Hn.out; omega
                have hjii : ¬ (i : Int) < (j : Int) := by omega
                have hLvi : (lvU u l[i] : Int) < (k : Int) := by omega
                have hLvn : ¬ (k : Int) ≤ (lvU u l[i] : Int) := by omega
                clear hFn hh elk ej hLv
                generalize lvU u l[i] = L at *
                generalize l[i] = s at *
                have h1 : ¬ (p : Int) < (s.1 : Int) := by omega
                have h2 : ¬ (s.2 : Int) < (p : Int) := by omega
                have hne := fun W => neS_any s s W
                simp only [decide_true, Bool.not_true] at hne
                clear hyes
                go_wp2_with (fail)
                go_quiet (fail)
                go_wp2_with (fail)
                go_roundw
                case rel => exact ⟨i + 1, by omega, by go_num, bel_drewN HBw.out _, bel_drewN HBq.out _⟩
                case measure => simp [intOf]; omega
            · obtain rfl : i = n := by omega
              have hni2 : ¬ (i : Int) < (i : Int) := by omega
              go_wp2_with (fail)
              refine (awakeC _).mono ?_
              rintro e w9 ⟨rfl, hb9⟩
              have HB9 : Hid (Below w.heap.size w w9) := bel_of HBw.out hb9 HBw.out.size
              clear hb9
              go_wp2
              go_ret
              exact ⟨rfl, HB9.out⟩

set_option maxRecDepth 100000 in
theorem nestHolds_lifted (os : Os) (started : os.Started) (H : Type) (enc : TypeId × Value → H) :
    ReturnsInHanded {} Try.checked os 4 .any (Rows.nestHoldsSpec.pre6 enc Try.prog Try.f4 Rows.nestHoldsRow.domain false) (Rows.nestHoldsSpec.post enc Try.prog Try.f4 false true false false) := by
  refine returnsInHanded_of_change (C := Try.checked) own started (by kernel_rfl) Try.func4
    (ChangeSpec.witness6 (enc := enc) (C := Try.checked) false ⟨#[], #[.slice none 0 0, .int .u16 0], []⟩ 8 (by kernel_rfl) (by kernel_rfl) (by kernel_rfl) (by kernel_rfl)) ?_
  intro W base args ds gs before hval0 hW hcnd _
  have hval : ∀ (j : Nat) t v, Try.f4.params[j]? = some t → args[j]? = some v → Value.okWide Try.prog W .any base t v := hval0
  have hW' := hW
  obtain ⟨p, q, hA0, hV, rfl, hfz, hnd⟩ := hW
  have hA : DataW.TrodAll enc Try.prog W 0 (fun _ => true) true Try.f4.params.toList args.toList ds p := hA0
  rw [Try.params4] at hA hval
  obtain ⟨v0, vs0, d0, ds0, p0, q0, hargs, rfl, rfl, h0, r0⟩ := trodAll_cons hA
  obtain ⟨v1, vs1, d1, ds1, p1, q1, rfl, rfl, rfl, h1, r1⟩ := trodAll_cons r0
  obtain ⟨rfl, rfl, rfl⟩ := trodAll_nil r1
  obtain rfl : args = #[v0, v1] := by cases args; simp_all
  obtain ⟨rfl, rfl⟩ := trodVars_none hV
  have hlt0 : ∀ x ∈ p0, x.block < W.heap.size := fun x hx => by simpa using hW'.lt x (by simp [hx])
  obtain ⟨l0, s0, bd0⟩ := open_sps (hval 0 22 v0 rfl rfl) h0
  have hlt1 : ∀ x ∈ p1, x.block < W.heap.size := fun x hx => by simpa using hW'.lt x (by simp [hx])
  obtain ⟨a1, rfl, _, _, w1⟩ := open_int Try.underlying31 (hval 1 31 v1 rfl rfl) h1
  obtain ⟨b1, rfl, t1⟩ := wf_u16 w1
  clear hA0 hval0
  simp only [List.append_nil] at hW'
  refine (nestHolds_walk l0 v0 bd0 b1 t1 W s0).mono fun e W' ⟨he, bel⟩ => ?_
  subst he
  exact ⟨_, rfl, _, _, _, [], _, [], hW', trodAll_mk1 (shut_bool Try.underlying4 _), (trodAll_cons_mk (Below.trod laidOut (by kernel_rfl) (of_decide_eq_true (by kernel_rfl)) h0 bel hlt0) (trodAll_cons_mk (Below.trod laidOut (by kernel_rfl) (of_decide_eq_true (by kernel_rfl)) h1 bel hlt1) trodAll_mk0)), rfl, bel.frame _, fun h => by cases h⟩

/-- The given statement. -/
theorem nestHolds_holds : Rows.NestHoldsSaid :=
  OpenClaim.holds_of_wide 4 Try.f4 rfl rfl rfl rfl rfl rfl rfl ⟨rfl, rfl, rfl, rfl, rfl⟩ rfl rfl rfl rfl rfl (by kernel_rfl) Try.func4 (by kernel_rfl)
    (of_decide_eq_true (by kernel_rfl)) (by unfold Func.isWrapper; first | (rw [if_pos (by decide +kernel)]; kernel_rfl) | (rw [if_neg (by decide +kernel)]; exact ⟨rfl, rfl⟩))
    (fun os started H enc _ => nestHolds_lifted os started H enc)
#print axioms nestHolds_holds
end Go.Proofs.Ytcjpjofoddpfhaa
