/-
  The law NestSizes answers true for every list of rules and every header: Prune, Grid, Tuple and Pairs tell what the document says, and what was handed in stays (P14.3, P14.4).
  Conditions: none; the law holds for every input.
-/
import Derived.Test.YtcjpjofoddpfhaaGreatNsSc
import Derived.Test.YtcjpjofoddpfhaaGreatNsSe
import Derived.Test.YtcjpjofoddpfhaaGreatNsFr
namespace Go.Proofs.YtcjpjofoddpfhaaGreat
open Go.ChangeShapes Go.WideShapes Go.ChangeAt Go.RowKit Go.Joins
set_option linter.unusedVariables false
set_option linter.unusedSimpArgs false

theorem Lent.on {w w1 : World} {x : Value} {l : List Ru} {g : Nat} (h : Lent w x l g) (hb : Below w.heap.size w w1) : Lent w1 x l g := ⟨h.1, h.2.on hb⟩
set_option maxRecDepth 40000 in
set_option maxHeartbeats 8000000 in
theorem nestSizes_walk (l : List Ru) (v : Value) (bd : ∀ R ∈ l, BdR R) (h : Hd) (ho : OkH h) (w : World) (hs : SrcU w v l) :
    Calls Tryz.prog 5 #[v, .agg #[.int .u32 (h.s : Int), .int .u32 (h.d : Int), .int .u16 (h.p : Int), .int .u16 (h.q : Int), .int .u8 (h.r : Int)]] w fun e w' => e = .returned (.bool true) ∧ Below w.heap.size w w' := by
  have HBd : Hid (∀ R ∈ l, BdR R) := bd
  have HO : Hid (OkH h) := ho
  obtain ⟨w0, hw0⟩ : ∃ w0, w0 = w.alloc (.cells #[.int .u32 (h.s : Int), .int .u32 (h.d : Int), .int .u16 (h.p : Int), .int .u16 (h.q : Int), .int .u8 (h.r : Int)] 40) := ⟨_, rfl⟩
  have hw0s : w.alloc (.cells #[.int .u32 (h.s : Int), .int .u32 (h.d : Int), .int .u16 (h.p : Int), .int .u16 (h.q : Int), .int .u8 (h.r : Int)] 40) = w0 := hw0.symm
  have HX : Hid (w0.heap[w.heap.size]? = some (.cells #[.int .u32 (h.s : Int), .int .u32 (h.d : Int), .int .u16 (h.p : Int), .int .u16 (h.q : Int), .int .u8 (h.r : Int)] 40 (0, 0))) := by show _ = _; rw [hw0]; exact blk_new w _
  have hb0 : Below w.heap.size w w0 := by rw [hw0]; exact (Below.refl _ _).alloc (Nat.le_refl _) _
  have HB0 : Hid (Below w.heap.size w w0) := hb0
  have HS : Hid (SrcU w0 v l) := hs.keep hb0
  clear hw0 hb0 bd ho
  obtain ⟨ad, cap, rfl, hcp, _⟩ := hs
  obtain ⟨n, hn⟩ : ∃ n, n = l.length := ⟨_, rfl⟩
  rw [← hn] at HS hcp ⊢
  have Hn : Hid (n = l.length) := hn
  clear hn hcp
  by_cases hlt : 16777216 < n
  · have hlti : (16777216 : Int) < (n : Int) := by omega
    go_enter Tryz.func5, Tryz.ntmps5
    go_wp2_with (fail)
    try simp only [hw0s]
    refine (awakeC _).mono ?_
    rintro e w2 ⟨rfl, hb2⟩
    have HB2 : Hid (Below w.heap.size w w2) := bel_of HB0.out hb2 HB0.out.size
    clear hb2
    go_wp2
    go_ret
    exact ⟨rfl, HB2.out⟩
  · have hlti : ¬ (16777216 : Int) < (n : Int) := by omega
    have Hnb : Hid (l.length ≤ 16777216) := by show _ ≤ _; rw [← Hn.out]; omega
    have hA := lendC _ l w0 HS.out Hnb.out
    go_enter Tryz.func5, Tryz.ntmps5
    go_wp2_with (fail)
    try simp only [hw0s]
    clear hw0s
    refine hA.mono ?_
    rintro e w1 ⟨x, g, rfl, hL1, hg1, _, hb1⟩
    have HL1 : Hid (Lent w1 x l g) := hL1
    have Hg : Hid (w0.heap.size ≤ g) := hg1
    have HB1 : Hid (Below w0.heap.size w0 w1) := hb1
    clear hA hL1 hg1 hb1
    generalize hPN : prnL l = PN
    generalize hGN : grdL l = GN
    generalize hTN : tupL l = TN
    generalize hEN : setE l 64 = EN
    have HPN : Hid (prnL l = PN ∧ grdL l = GN ∧ tupL l = TN ∧ setE l 64 = EN) := ⟨hPN, hGN, hTN, hEN⟩
    clear hPN hGN hTN hEN
    have hC := pruneC l x w1 (HL1.out.src) Hnb.out HBd.out
    rw [HPN.out.2.2.2] at hC
    first | rw [HPN.out.1] at hC | rw [HPN.out.2.1] at hC | rw [HPN.out.2.2.1] at hC
    go_wp2_with (fail)
    refine hC.mono ?_
    rintro e w2 ⟨rfl, hb⟩
    have HL2 : Hid (Lent w2 x l g) := HL1.out.on hb
    have HB2 : Hid (Below w0.heap.size w0 w2) := bel_of HB1.out hb HB1.out.size
    clear hC hb HL1 HB1
    have hC := rPruneC l (.slice ad n cap) w2 (HS.out.keep HB2.out) HBd.out
    rw [HPN.out.2.2.2] at hC
    first | rw [HPN.out.1] at hC | rw [HPN.out.2.1] at hC | rw [HPN.out.2.2.1] at hC
    go_wp2_with (fail)
    refine hC.mono ?_
    rintro e w3 ⟨rfl, hb⟩
    have HL3 : Hid (Lent w3 x l g) := HL2.out.on hb
    have HB3 : Hid (Below w0.heap.size w0 w3) := bel_of HB2.out hb HB2.out.size
    clear hC hb HL2 HB2
    have hC := gridC l x w3 (HL3.out.src) Hnb.out HBd.out
    rw [HPN.out.2.2.2] at hC
    first | rw [HPN.out.1] at hC | rw [HPN.out.2.1] at hC | rw [HPN.out.2.2.1] at hC
    go_wp2_with (fail)
    refine hC.mono ?_
    rintro e w4 ⟨rfl, hb⟩
    have HL4 : Hid (Lent w4 x l g) := HL3.out.on hb
    have HB4 : Hid (Below w0.heap.size w0 w4) := bel_of HB3.out hb HB3.out.size
    clear hC hb HL3 HB3
    have hC := rGridC l (.slice ad n cap) w4 (HS.out.keep HB4.out) HBd.out
    rw [HPN.out.2.2.2] at hC
    first | rw [HPN.out.1] at hC | rw [HPN.out.2.1] at hC | rw [HPN.out.2.2.1] at hC
    go_wp2_with (fail)
    refine hC.mono ?_
    rintro e w5 ⟨rfl, hb⟩
    have HL5 : Hid (Lent w5 x l g) := HL4.out.on hb
    have HB5 : Hid (Below w0.heap.size w0 w5) := bel_of HB4.out hb HB4.out.size
    clear hC hb HL4 HB4
    have hC := tupleC l x w5 (HL5.out.src) Hnb.out HBd.out
    rw [HPN.out.2.2.2] at hC
    first | rw [HPN.out.1] at hC | rw [HPN.out.2.1] at hC | rw [HPN.out.2.2.1] at hC
    go_wp2_with (fail)
    refine hC.mono ?_
    rintro e w6 ⟨rfl, hb⟩
    have HL6 : Hid (Lent w6 x l g) := HL5.out.on hb
    have HB6 : Hid (Below w0.heap.size w0 w6) := bel_of HB5.out hb HB5.out.size
    clear hC hb HL5 HB5
    have hC := rTupleC l (.slice ad n cap) w6 (HS.out.keep HB6.out) HBd.out
    rw [HPN.out.2.2.2] at hC
    first | rw [HPN.out.1] at hC | rw [HPN.out.2.1] at hC | rw [HPN.out.2.2.1] at hC
    go_wp2_with (fail)
    refine hC.mono ?_
    rintro e w7 ⟨rfl, hb⟩
    have HL7 : Hid (Lent w7 x l g) := HL6.out.on hb
    have HB7 : Hid (Below w0.heap.size w0 w7) := bel_of HB6.out hb HB6.out.size
    clear hC hb HL6 HB6
    generalize hPR : prsN l h = PR
    have HPR : Hid (prsN l h = PR) := hPR
    clear hPR
    have hC := pairsC l h x w7 HL7.out.src Hnb.out HBd.out HO.out
    rw [HPR.out] at hC
    have HX7 : Hid (w7.heap[w.heap.size]? = some (.cells #[.int .u32 (h.s : Int), .int .u32 (h.d : Int), .int .u16 (h.p : Int), .int .u16 (h.q : Int), .int .u8 (h.r : Int)] 40 (0, 0))) := blk_on HX.out HB7.out
    have z0 : w7.cell? ⟨w.heap.size, 0, none⟩ = some (.int .u32 (h.s : Int)) := blk_cell HX7.out rfl
    have z1 : w7.cell? ⟨w.heap.size, 1, none⟩ = some (.int .u32 (h.d : Int)) := blk_cell HX7.out rfl
    have z2 : w7.cell? ⟨w.heap.size, 2, none⟩ = some (.int .u16 (h.p : Int)) := blk_cell HX7.out rfl
    have z3 : w7.cell? ⟨w.heap.size, 3, none⟩ = some (.int .u16 (h.q : Int)) := blk_cell HX7.out rfl
    have z4 : w7.cell? ⟨w.heap.size, 4, none⟩ = some (.int .u8 (h.r : Int)) := blk_cell HX7.out rfl
    go_wp2_with (fail)
    refine hC.mono ?_
    rintro e wa ⟨rfl, hb⟩
    have HLa : Hid (Lent wa x l g) := HL7.out.on hb
    have HBa : Hid (Below w0.heap.size w0 wa) := bel_of HB7.out hb HB7.out.size
    clear hC hb HL7 HB7 z0 z1 z2 z3 z4 HX7
    have hC := backC (.slice ad n cap) x l g wa HLa.out (HS.out.keep HBa.out) Hnb.out
    go_wp2_with (fail)
    refine hC.mono ?_
    rintro e wb ⟨rfl, hg⟩
    have HBb : Hid (Below w0.heap.size w0 wb) := HBa.out.grown hg HBa.out.size (fun q hq => by injection hq with e; rw [← e]; exact Hg.out)
    clear hC hg HLa HBa
    go_wp2_with (fail)
    refine (awakeC _).mono ?_
    rintro e wc ⟨rfl, hb⟩
    have HBc : Hid (Below w0.heap.size w0 wc) := bel_of HBb.out hb HBb.out.size
    clear hb HBb
    have hC := rPairsC l h (.slice ad n cap) wc (HS.out.keep HBc.out) Hnb.out HBd.out HO.out
    rw [HPR.out] at hC
    have HXc : Hid (wc.heap[w.heap.size]? = some (.cells #[.int .u32 (h.s : Int), .int .u32 (h.d : Int), .int .u16 (h.p : Int), .int .u16 (h.q : Int), .int .u8 (h.r : Int)] 40 (0, 0))) := blk_on HX.out HBc.out
    have z0 : wc.cell? ⟨w.heap.size, 0, none⟩ = some (.int .u32 (h.s : Int)) := blk_cell HXc.out rfl
    have z1 : wc.cell? ⟨w.heap.size, 1, none⟩ = some (.int .u32 (h.d : Int)) := blk_cell HXc.out rfl
    have z2 : wc.cell? ⟨w.heap.size, 2, none⟩ = some (.int .u16 (h.p : Int)) := blk_cell HXc.out rfl
    have z3 : wc.cell? ⟨w.heap.size, 3, none⟩ = some (.int .u16 (h.q : Int)) := blk_cell HXc.out rfl
    have z4 : wc.cell? ⟨w.heap.size, 4, none⟩ = some (.int .u8 (h.r : Int)) := blk_cell HXc.out rfl
    go_wp2_with (fail)
    refine hC.mono ?_
    rintro e wd ⟨rfl, hb⟩
    have HBd2 : Hid (Below w.heap.size w wd) := bel_of HB0.out (bel_of HBc.out hb HBc.out.size) HB0.out.size
    clear hC hb z0 z1 z2 z3 z4 HXc
    go_wp2
    go_ret
    exact ⟨rfl, HBd2.out⟩

set_option maxRecDepth 100000 in
theorem nestSizes_lifted (os : Os) (started : os.Started) (H : Type) (enc : TypeId × Value → H) :
    ReturnsInHanded {} Tryz.checked os 5 .any (Rows.nestSizesSpec.pre6 enc Tryz.prog Tryz.f5 Rows.nestSizesRow.domain false) (Rows.nestSizesSpec.post enc Tryz.prog Tryz.f5 false true false false) := by
  refine returnsInHanded_of_change (C := Tryz.checked) own started (by kernel_rfl) Tryz.func5
    (ChangeSpec.witness6 (enc := enc) (C := Tryz.checked) false ⟨#[], #[.slice none 0 0, .agg #[.int .u32 0, .int .u32 0, .int .u16 0, .int .u16 0, .int .u8 0]], []⟩ 8 (by kernel_rfl) (by kernel_rfl) (by kernel_rfl) (by kernel_rfl)) ?_
  intro W base args ds gs before hval0 hW hcnd _
  have hval : ∀ (j : Nat) t v, Tryz.f5.params[j]? = some t → args[j]? = some v → Value.okWide Tryz.prog W .any base t v := hval0
  have hW' := hW
  obtain ⟨p, q, hA0, hV, rfl, hfz, hnd⟩ := hW
  have hA : DataW.TrodAll enc Tryz.prog W 0 (fun _ => true) true Tryz.f5.params.toList args.toList ds p := hA0
  rw [Tryz.params5] at hA hval
  obtain ⟨v0, vs0, d0, ds0, p0, q0, hargs, rfl, rfl, h0, r0⟩ := trodAll_cons hA
  obtain ⟨v1, vs1, d1, ds1, p1, q1, rfl, rfl, rfl, h1, r1⟩ := trodAll_cons r0
  obtain ⟨rfl, rfl, rfl⟩ := trodAll_nil r1
  obtain rfl : args = #[v0, v1] := by cases args; simp_all
  obtain ⟨rfl, rfl⟩ := trodVars_none hV
  have hlt0 : ∀ x ∈ p0, x.block < W.heap.size := fun x hx => by simpa using hW'.lt x (by simp [hx])
  obtain ⟨l0, s0, bd0⟩ := open_rus (hval 0 37 v0 rfl rfl) h0
  have hlt1 : ∀ x ∈ p1, x.block < W.heap.size := fun x hx => by simpa using hW'.lt x (by simp [hx])
  obtain ⟨a1, rfl, b1⟩ := open_hd (hval 1 40 v1 rfl rfl) h1
  clear hA0 hval0
  simp only [List.append_nil] at hW'
  refine (nestSizes_walk l0 v0 bd0 a1 b1 W s0).mono fun e W' ⟨he, bel⟩ => ?_
  subst he
  exact ⟨_, rfl, _, _, _, [], _, [], hW', trodAll_mk1 (shut_bool Tryz.underlying4 _), (trodAll_cons_mk (Below.trod laidOut (by kernel_rfl) (of_decide_eq_true (by kernel_rfl)) h0 bel hlt0) (trodAll_cons_mk (Below.trod laidOut (by kernel_rfl) (of_decide_eq_true (by kernel_rfl)) h1 bel hlt1) trodAll_mk0)), rfl, bel.frame _, fun h => by cases h⟩

/-- The given statement. -/
theorem nestSizes_holds : Rows.NestSizesSaid :=
  OpenClaim.holds_of_wide 5 Tryz.f5 rfl rfl rfl rfl rfl rfl rfl ⟨rfl, rfl, rfl, rfl, rfl⟩ rfl rfl rfl rfl rfl (by kernel_rfl) Tryz.func5 (by kernel_rfl)
    (of_decide_eq_true (by kernel_rfl)) (by unfold Func.isWrapper; first | (rw [if_pos (by decide +kernel)]; kernel_rfl) | (rw [if_neg (by decide +kernel)]; exact ⟨rfl, rfl⟩))
    (fun os started H enc _ => nestSizes_lifted os started H enc)
#print axioms nestSizes_holds
end Go.Proofs.YtcjpjofoddpfhaaGreat
