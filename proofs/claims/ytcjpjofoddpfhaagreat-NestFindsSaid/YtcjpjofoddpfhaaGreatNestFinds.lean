/-
  The law NestFinds answers true for every list of spans and every port: what Find tells is what the document says, twice over; what was handed in stays (P14.2).
  Conditions: none; the law holds for every input.
-/
import Derived.Test.YtcjpjofoddpfhaaGreatNsLw
import Derived.Test.YtcjpjofoddpfhaaGreatNsFr
namespace Go.Proofs.YtcjpjofoddpfhaaGreat
open Go.ChangeShapes Go.WideShapes Go.ChangeAt Go.RowKit Go.Joins
set_option linter.unusedVariables false
set_option linter.unusedSimpArgs false

set_option maxRecDepth 40000 in
set_option maxHeartbeats 8000000 in
theorem nestFinds_walk (l : List (Nat × Nat)) (v : Value) (bd : (∀ s ∈ l, Bd16 s) ∧ l.length ≤ maxLen) (p : Nat) (hp : p < 65536) (w : World) (hs : SrcS w v l) :
    Calls Tryz.prog 4 #[v, .int .u16 (p : Int)] w fun e w' => e = .returned (.bool true) ∧ Below w.heap.size w w' := by
  have HS : Hid (SrcS w v l) := hs
  have HBd : Hid (∀ s ∈ l, Bd16 s) := bd.1
  obtain ⟨ad, cap, rfl, _, _⟩ := hs
  have hmx : l.length ≤ 9223372036854775807 := by have := bd.2; unfold maxLen at this; omega
  obtain ⟨n, hn⟩ : ∃ n, n = l.length := ⟨_, rfl⟩
  rw [← hn] at HS hmx ⊢
  have Hn : Hid (n = l.length) := hn
  clear hn bd
  by_cases hlt : 16777216 < n
  · have hlti : (16777216 : Int) < (n : Int) := by omega
    go_enter Tryz.func4, Tryz.ntmps4
    go_wp2_with (fail)
    refine (awakeC _).mono ?_
    rintro e w2 ⟨rfl, hb2⟩
    have HB2 : Hid (Below w.heap.size w w2) := hb2
    clear hb2
    go_wp2
    go_ret
    exact ⟨rfl, HB2.out⟩
  · have hlti : ¬ (16777216 : Int) < (n : Int) := by omega
    have hnb : n ≤ 16777216 := by omega
    have Hnb : Hid (l.length ≤ 16777216) := by show _ ≤ _; rw [← Hn.out]; exact hnb
    go_enter Tryz.func4, Tryz.ntmps4
    have hE := lentC l _ w HS.out Hnb.out
    rw [← Hn.out] at hE
    go_wp2_with (fail)
    refine hE.mono ?_
    rintro e w1 ⟨g, rfl, hg, hr1, hb1⟩
    have HG1 : Hid (RowS w1 w.heap.size (.slice (some ⟨g, 0, none⟩) (n + 1) (n + 1)) (l ++ [(7, 3)])) := hr1
    have HB1 : Hid (Below w.heap.size w w1) := hb1
    have Hg : Hid (g < w1.heap.size) := (hr1.lt g rfl).2
    clear hE hg hr1 hb1
    have hA := findU l p (.slice (some ⟨g, 0, none⟩) n (n + 1)) w1 (HG1.out.head Hn.out _ (by omega)) Hnb.out HBd.out
    go_wp2_with (fail)
    refine hA.mono ?_
    rintro e w2 ⟨v4, R, er, rfl, hO, hr2, hb2⟩
    have HO : Hid (FnOut l p R er) := hO
    have HA2 : Hid (RowI w2 w1.heap.size v4 R) := hr2
    have HG2 : Hid (RowS w2 w.heap.size (.slice (some ⟨g, 0, none⟩) (n + 1) (n + 1)) (l ++ [(7, 3)])) := HG1.out.on hb2
    have HB2 : Hid (Below w.heap.size w w2) := bel_of HB1.out hb2 HB1.out.size
    have Hz2 : Hid (w1.heap.size ≤ w2.heap.size) := hb2.size
    have HRl : Hid (R.length ≤ 16777216) := Nat.le_trans hO.len Hnb.out
    clear hA hO hr2 hb2 HG1
    have hC := rFindU l p (.slice ad n cap) w2 (HS.out.keep HB2.out) Hnb.out
    go_wp2_with (fail)
    refine hC.mono ?_
    rintro e w3 ⟨v6, R', er', rfl, hO, hr3, hb3⟩
    obtain ⟨rfl, rfl⟩ := HO.out.uniq hO
    have HC3 : Hid (RowI w3 w2.heap.size v6 R') := hr3
    have HA3 : Hid (RowI w3 w1.heap.size v4 R') := HA2.out.on hb3
    have HG3 : Hid (RowS w3 w.heap.size (.slice (some ⟨g, 0, none⟩) (n + 1) (n + 1)) (l ++ [(7, 3)])) := HG2.out.on hb3
    have HB3 : Hid (Below w.heap.size w w3) := bel_of HB2.out hb3 HB2.out.size
    have Hv4 : Hid (∀ k, v4.ownBlock = some k → w1.heap.size ≤ k ∧ k < w2.heap.size) := HA2.out.lt
    clear hC hO hr3 hb3 HG2 HA2
    have hI := intsC R' v4 v6 w3 HA3.out.src HC3.out.src (by have := HRl.out; omega)
    go_wp2_with (fail)
    refine hI.mono ?_
    rintro e w4 ⟨rfl, hb4⟩
    have HC4 : Hid (RowI w4 w2.heap.size v6 R') := HC3.out.on hb4
    have HA4 : Hid (RowI w4 w1.heap.size v4 R') := HA3.out.on hb4
    have HG4 : Hid (RowS w4 w.heap.size (.slice (some ⟨g, 0, none⟩) (n + 1) (n + 1)) (l ++ [(7, 3)])) := HG3.out.on hb4
    have HB4 : Hid (Below w.heap.size w w4) := bel_of HB3.out hb4 HB3.out.size
    clear hI hb4 HG3 HA3 HC3 HB3
    obtain ⟨a4, c4, rfl, _⟩ := HA4.out.form
    obtain ⟨m, hm⟩ : ∃ m, m = R'.length := ⟨_, rfl⟩
    rw [← hm] at HA4 Hv4 ⊢
    have Hm : Hid (m = R'.length) := hm
    have hmb : m ≤ 16777216 := by rw [hm]; exact HRl.out
    clear hm
    go_wp2_with (fail)
    go_loopw [11] (fun vi wr => ∃ (k : Nat) (Q : List Int), k ≤ m ∧ vi = .int .i64 (k : Int) ∧ Hid (Q.length = m) ∧ Hid (RowI wr w1.heap.size (.slice a4 m c4) Q) ∧ Hid (w4.grownBy wr (Value.slice a4 m c4).ownBlock)) (fun vi _ => m - (intOf vi).toNat)
    case atStart => exact ⟨0, R', Nat.zero_le _, rfl, Hm.out.symm, HA4.out, grown_none _ _⟩
    case round =>
      obtain ⟨k, Q, hk, rfl, HQ, HR, HGr⟩ := hrel
      by_cases hltk : k < m
      · have hltki : (k : Int) < (m : Int) := by omega
        have hkq : k < Q.length := by rw [HQ.out]; exact hltk
        obtain ⟨a', c', e', hf⟩ := HR.out.form
        injection e' with e1 e2 e3
        subst e1 e3
        clear e2
        obtain ⟨g4, rfl, _, _, _⟩ := hf (by omega)
        obtain ⟨f0, f1⟩ := HR.out.cell hkq
        have hst := HR.out.set k 77
        have HR2 : Hid (RowI (wr.setCell ⟨g4, k, none⟩ (.int .i64 77)) w1.heap.size (.slice (some ⟨g4, 0, none⟩) m c4) (Q.set k 77)) := hst.1
        have HGr2 : Hid (w4.grownBy (wr.setCell ⟨g4, k, none⟩ (.int .i64 77)) (Value.slice (some ⟨g4, 0, none⟩) m c4).ownBlock) := grown_trans HGr.out hst.2
        clear hst hf
        generalize Q[k] = x at f0
        go_wp2_with (fail)
        go_roundw
        case rel => exact ⟨k + 1, Q.set k 77, by omega, by go_num, (by show _ = _; rw [List.length_set]; exact HQ.out), HR2.out, HGr2.out⟩
        case measure => simp [intOf]; omega
      · obtain rfl : k = m := by omega
        have hnk : ¬ (k : Int) < (k : Int) := by omega
        generalize wr = w7 at *
        have HC7 : Hid (RowI w7 w2.heap.size v6 R') := rowI_keptO HC4.out HGr.out (fun j hj => (Hv4.out j hj).2)
        have HG7 : Hid (RowS w7 w.heap.size (.slice (some ⟨g, 0, none⟩) (n + 1) (n + 1)) (l ++ [(7, 3)])) := rowS_keptO HG4.out HGr.out (fun i j hi hj => by
          have h1 := (Hv4.out j hj).1
          have h2 := Hg.out
          injection hi with hi
          change g = i at hi
          omega)
        have HB7 : Hid (Below w.heap.size w w7) := HB4.out.grown HGr.out HB4.out.size (fun j hj => Nat.le_trans HB1.out.size (Hv4.out j hj).1)
        clear HR HGr HC4 HA4 HG4 HB4 HQ
        have hA := findU l p (.slice (some ⟨g, 0, none⟩) n (n + 1)) w7 (HG7.out.head Hn.out _ (by omega)) Hnb.out HBd.out
        go_wp2_with (fail)
        refine hA.mono ?_
        rintro e w8 ⟨v14, R, er4, rfl, hO, hr8, hb8⟩
        obtain ⟨rfl, rfl⟩ := HO.out.uniq hO
        have HD8 : Hid (RowI w8 w7.heap.size v14 R) := hr8
        have HC8 : Hid (RowI w8 w2.heap.size v6 R) := HC7.out.on hb8
        have HG8 : Hid (RowS w8 w.heap.size (.slice (some ⟨g, 0, none⟩) (n + 1) (n + 1)) (l ++ [(7, 3)])) := HG7.out.on hb8
        have HB8 : Hid (Below w.heap.size w w8) := bel_of HB7.out hb8 HB7.out.size
        clear hA hO hr8 hb8 HG7 HC7 HB7
        have hI := intsC R v14 v6 w8 HD8.out.src HC8.out.src (by have := HRl.out; omega)
        go_wp2_with (fail)
        refine hI.mono ?_
        rintro e w9 ⟨rfl, hb9⟩
        have HG9 : Hid (RowS w9 w.heap.size (.slice (some ⟨g, 0, none⟩) (n + 1) (n + 1)) (l ++ [(7, 3)])) := HG8.out.on hb9
        have HB9 : Hid (Below w.heap.size w w9) := bel_of HB8.out hb9 HB8.out.size
        clear hI hb9 HG8 HC8 HD8 HB8
        go_wp2_with (fail)
        refine (awakeC _).mono ?_
        rintro e w10 ⟨rfl, hb10⟩
        have HGa : Hid (RowS w10 w.heap.size (.slice (some ⟨g, 0, none⟩) (n + 1) (n + 1)) (l ++ [(7, 3)])) := HG9.out.on hb10
        have HBa : Hid (Below w.heap.size w w10) := bel_of HB9.out hb10 HB9.out.size
        clear hb10 HG9 HB9
        have hK := keptC l (.slice ad n cap) g w.heap.size w10 (by rw [← Hn.out]; exact HGa.out) (HS.out.keep HBa.out) Hnb.out
        rw [← Hn.out] at hK
        go_wp2_with (fail)
        refine hK.mono ?_
        rintro e w11 ⟨rfl, hb11⟩
        have HBb : Hid (Below w.heap.size w w11) := bel_of HBa.out hb11 HBa.out.size
        clear hK hb11
        go_wp2
        go_ret
        exact ⟨rfl, HBb.out⟩

set_option maxRecDepth 100000 in
theorem nestFinds_lifted (os : Os) (started : os.Started) (H : Type) (enc : TypeId × Value → H) :
    ReturnsInHanded {} Tryz.checked os 4 .any (Rows.nestFindsSpec.pre6 enc Tryz.prog Tryz.f4 Rows.nestFindsRow.domain false) (Rows.nestFindsSpec.post enc Tryz.prog Tryz.f4 false true false false) := by
  refine returnsInHanded_of_change (C := Tryz.checked) own started (by kernel_rfl) Tryz.func4
    (ChangeSpec.witness6 (enc := enc) (C := Tryz.checked) false ⟨#[], #[.slice none 0 0, .int .u16 0], []⟩ 8 (by kernel_rfl) (by kernel_rfl) (by kernel_rfl) (by kernel_rfl)) ?_
  intro W base args ds gs before hval0 hW hcnd _
  have hval : ∀ (j : Nat) t v, Tryz.f4.params[j]? = some t → args[j]? = some v → Value.okWide Tryz.prog W .any base t v := hval0
  have hW' := hW
  obtain ⟨p, q, hA0, hV, rfl, hfz, hnd⟩ := hW
  have hA : DataW.TrodAll enc Tryz.prog W 0 (fun _ => true) true Tryz.f4.params.toList args.toList ds p := hA0
  rw [Tryz.params4] at hA hval
  obtain ⟨v0, vs0, d0, ds0, p0, q0, hargs, rfl, rfl, h0, r0⟩ := trodAll_cons hA
  obtain ⟨v1, vs1, d1, ds1, p1, q1, rfl, rfl, rfl, h1, r1⟩ := trodAll_cons r0
  obtain ⟨rfl, rfl, rfl⟩ := trodAll_nil r1
  obtain rfl : args = #[v0, v1] := by cases args; simp_all
  obtain ⟨rfl, rfl⟩ := trodVars_none hV
  have hlt0 : ∀ x ∈ p0, x.block < W.heap.size := fun x hx => by simpa using hW'.lt x (by simp [hx])
  obtain ⟨l0, s0, bd0⟩ := open_sps (hval 0 22 v0 rfl rfl) h0
  have hlt1 : ∀ x ∈ p1, x.block < W.heap.size := fun x hx => by simpa using hW'.lt x (by simp [hx])
  obtain ⟨a1, rfl, _, _, w1⟩ := open_int Tryz.underlying34 (hval 1 34 v1 rfl rfl) h1
  obtain ⟨b1, rfl, t1⟩ := wf_u16 w1
  clear hA0 hval0
  simp only [List.append_nil] at hW'
  refine (nestFinds_walk l0 v0 bd0 b1 t1 W s0).mono fun e W' ⟨he, bel⟩ => ?_
  subst he
  exact ⟨_, rfl, _, _, _, [], _, [], hW', trodAll_mk1 (shut_bool Tryz.underlying4 _), (trodAll_cons_mk (Below.trod laidOut (by kernel_rfl) (of_decide_eq_true (by kernel_rfl)) h0 bel hlt0) (trodAll_cons_mk (Below.trod laidOut (by kernel_rfl) (of_decide_eq_true (by kernel_rfl)) h1 bel hlt1) trodAll_mk0)), rfl, bel.frame _, fun h => by cases h⟩

/-- The given statement. -/
theorem nestFinds_holds : Rows.NestFindsSaid :=
  OpenClaim.holds_of_wide 4 Tryz.f4 rfl rfl rfl rfl rfl rfl rfl ⟨rfl, rfl, rfl, rfl, rfl⟩ rfl rfl rfl rfl rfl (by kernel_rfl) Tryz.func4 (by kernel_rfl)
    (of_decide_eq_true (by kernel_rfl)) (by unfold Func.isWrapper; first | (rw [if_pos (by decide +kernel)]; kernel_rfl) | (rw [if_neg (by decide +kernel)]; exact ⟨rfl, rfl⟩))
    (fun os started H enc _ => nestFinds_lifted os started H enc)
#print axioms nestFinds_holds
end Go.Proofs.YtcjpjofoddpfhaaGreat
