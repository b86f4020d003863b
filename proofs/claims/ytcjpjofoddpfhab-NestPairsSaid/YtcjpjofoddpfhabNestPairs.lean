/-
  The law NestPairs answers true for every list of rules and every header: no more rules match than Pairs tells, these are no more than there are, and the document's examples are met (P14.5).
  Conditions: none; the law holds for every input.
-/
import Derived.Test.YtcjpjofoddpfhabNsAw
import Derived.Test.YtcjpjofoddpfhabTbRd
import Derived.Test.YtcjpjofoddpfhabNsFr
namespace Go.Proofs.Ytcjpjofoddpfhab
open Go.ChangeShapes Go.WideShapes Go.ChangeAt Go.RowKit Go.Joins
set_option linter.unusedVariables false
set_option linter.unusedSimpArgs false

theorem wpQuiet_load_midP {P : Program} {ops : Array Oper} {C : World → Prop} {Q : Act → Prop} {rest : List Oper} {op : Oper} {a : Act} (hgd : op.guard = none) (ty : TypeId) (x : Operand) (ho : op.op = .load ty x)
    (B o : Nat) (cs : Array Value) (hx : a.eval x = .pointer (some ⟨B, o, none⟩)) (h : ∀ w, C w → w.rangeAt B o cs.toList) {d : TypeDesc} (hu : P.underlying ty = some d) (hd : d.isRow = true) (hi : (P.info? ty).map (·.size) = some cs.size)
    (hk : wpQuiet P ops C Q rest (a.put op.dst (.agg cs))) : wpQuiet P ops C Q (op :: rest) a := by
  have hw : Region.wanted op (yielded ops a.tmps) = true := by unfold Region.wanted; rw [hgd]
  unfold wpQuiet
  rw [if_pos hw]
  refine ⟨_, fun w hw => ?_, hk⟩
  have hl := run_loadVar_mid (P := P) w B o ty cs.toList d (h w hw) hu hd (by simpa using hi)
  unfold Oper.quietAt execOp
  simp only [ho, hx, Instr.loadAt, Instr.sureAddr, Sem.run_bind, Sem.run_pure, Result.andThen_ok, hl]
  exact ⟨rfl, rfl⟩
theorem range_onP {w w1 : World} (hb : Below w.heap.size w w1) {B o : Nat} {cs : List Value} (h : w.rangeAt B o cs) : w1.rangeAt B o cs := fun j v hv => cell_on1 hb (h j v hv)
theorem range_kinP {W : World} {B o : Nat} {cs : List Value} (h : W.rangeAt B o cs) : ∀ w', (∃ x : Kin W, w' = x.val) → w'.rangeAt B o cs := fun w' ⟨x, hx⟩ => by rw [hx]; exact range_onP x.is h
theorem infoXP : (Try.prog.info? 37).map (·.size) = some 12 := by kernel_rfl
theorem infoHP : (Try.prog.info? 26).map (·.size) = some 5 := by kernel_rfl
theorem mat_step {l : List Ru} {h : Hd} {k : Nat} (hk : k < l.length) : ((l.take (k + 1)).countP (fun R => matchR R h)) = (l.take k).countP (fun R => matchR R h) + if matchR l[k] h then 1 else 0 := by
  rw [take_at hk, List.countP_append, List.countP_singleton]
theorem mat_le (l : List Ru) (h : Hd) : l.countP (fun R => matchR R h) ≤ prsN l h :=
  List.countP_mono_left fun R _ hm => by
    unfold prsB
    unfold matchR at hm
    simp only [Bool.and_eq_true] at hm ⊢
    exact ⟨hm.1, hm.2.1.1.1.1, hm.2.1.1.1.2⟩
set_option maxRecDepth 20000 in
set_option maxHeartbeats 8000000 in
theorem nestPairs_walk (l : List Ru) (v : Value) (bd : ∀ R ∈ l, BdR R) (h : Hd) (oh : OkH h) (w : World) (hs : SrcU w v l) :
    Calls Try.prog 3 #[v, .agg #[.int .u32 (h.s : Int), .int .u32 (h.d : Int), .int .u16 (h.p : Int), .int .u16 (h.q : Int), .int .u8 (h.r : Int)]] w fun e w' => e = .returned (.bool true) ∧ Below w.heap.size w w' := by
  have HS : Hid (SrcU w v l) := hs
  have HBd : Hid (∀ R ∈ l, BdR R) := bd
  obtain ⟨ad, cap, rfl, _, _⟩ := hs
  obtain ⟨n, hn⟩ : ∃ n, n = l.length := ⟨_, rfl⟩
  rw [← hn] at HS ⊢
  have Hn : Hid (n = l.length) := hn
  clear hn bd
  obtain ⟨w0, hw0⟩ : ∃ w0, w0 = w.alloc (.cells #[.int .u32 (h.s : Int), .int .u32 (h.d : Int), .int .u16 (h.p : Int), .int .u16 (h.q : Int), .int .u8 (h.r : Int)] 26) := ⟨_, rfl⟩
  have HX0 : Hid (w0.heap[w.heap.size]? = some (.cells #[.int .u32 (h.s : Int), .int .u32 (h.d : Int), .int .u16 (h.p : Int), .int .u16 (h.q : Int), .int .u8 (h.r : Int)] 26 (0, 0))) := by rw [hw0]; exact blk_new w _
  have HB0 : Hid (Below w.heap.size w w0) := by rw [hw0]; exact (Below.refl _ _).alloc (Nat.le_refl _) _
  have hw0s : w.alloc (.cells #[.int .u32 (h.s : Int), .int .u32 (h.d : Int), .int .u16 (h.p : Int), .int .u16 (h.q : Int), .int .u8 (h.r : Int)] 26) = w0 := hw0.symm
  clear hw0
  by_cases hlt : 16777216 < n
  · have hlti : (16777216 : Int) < (n : Int) := by omega
    go_enter Try.func3, Try.ntmps3
    go_wp2_with (fail)
    try simp only [hw0s]
    refine (awakeC _).mono ?_
    rintro e w1 ⟨rfl, hb1⟩
    have HB1 : Hid (Below w.heap.size w w1) := bel_of HB0.out hb1 HB0.out.size
    clear hb1
    go_wp2
    go_ret
    exact ⟨rfl, HB1.out⟩
  · have hlti : ¬ (16777216 : Int) < (n : Int) := by omega
    have hnb : n ≤ 16777216 := by omega
    go_enter Try.func3, Try.ntmps3
    go_upto_region 5 with (fail)
    try simp only [hw0s]
    clear hw0s
    go_loopw [5, 6] (fun vs vi wr => ∃ k : Nat, k ≤ n ∧ vs = .int .i64 (((l.take k).countP (fun R => matchR R h) : Nat) : Int) ∧ vi = .int .i64 (k : Int) ∧ Hid (Below w0.heap.size w0 wr)) (fun _ vi _ => n - (intOf vi).toNat)
    case atStart => exact ⟨0, Nat.zero_le _, rfl, rfl, Below.refl _ _⟩
    case round =>
      obtain ⟨k, hk, rfl, rfl, HB⟩ := hrel
      by_cases hltk : k < n
      · have hlt' : k < l.length := by rw [← Hn.out]; exact hltk
        have hltki : (k : Int) < (n : Int) := by omega
        have HBw : Hid (Below w.heap.size w wr) := bel_of HB0.out HB.out HB0.out.size
        obtain ⟨g, off, rfl, hrg⟩ := (rngU HS.out).2 wr HBw.out k hlt'
        have hst := mat_step (h := h) hlt'
        have hbd := HBd.out _ (List.getElem_mem hlt')
        have hcl : (l.take k).countP (fun R => matchR R h) ≤ k := Nat.le_trans List.countP_le_length (by rw [List.length_take]; omega)
        obtain ⟨p, hp⟩ : ∃ p, p = l[k] := ⟨_, rfl⟩
        rw [← hp] at hrg hst hbd
        have hM := fun W => matchC p h W hbd oh
        have HR : Hid (wr.rangeAt g (off + k * 12) (encU p).toArray.toList) := fun j u hu => hrg j u hu
        have HRh : Hid (wr.rangeAt w.heap.size 0 (#[.int .u32 (h.s : Int), .int .u32 (h.d : Int), .int .u16 (h.p : Int), .int .u16 (h.q : Int), .int .u8 (h.r : Int)] : Array Value).toList) := by
          have := World.rangeAt_of_block (blk_on HX0.out HB.out) 0 5
          show wr.rangeAt w.heap.size 0 _
          simpa using this
        have hi : (Try.prog.info? 37).map (·.size) = some (encU p).toArray.size := by
          have : (encU p).toArray.size = 12 := by simp [encU]
          rw [this]; exact infoXP
        have hM' : ∀ W, Calls Try.prog 5 #[.agg (encU p).toArray, .agg #[.int .u32 (h.s : Int), .int .u32 (h.d : Int), .int .u16 (h.p : Int), .int .u16 (h.q : Int), .int .u8 (h.r : Int)]] W fun e w' => e = .returned (.bool (matchR p h)) ∧ Below W.heap.size W w' := hM
        have Hst : Hid _ := hst
        have Hi : Hid _ := hi
        clear hrg hp hst hbd hM hi
        generalize (encU p).toArray = A at *
        generalize (l.take k).countP (fun R => matchR R h) = C at *
        generalize matchR p h = mt0 at *
        go_upto_region 7 with (fail)
        have kne : Nonempty (Kin wr) := ⟨⟨_, Below.refl _ _⟩⟩
        refine wp_region_kin wr (Below.refl _ _) (by kernel_rfl) (by kernel_rfl) ?_
        iterate 3 (go_big_quiet_step (fail))
        refine wpQuiet_load_midP rfl 37 (.tmp 20) rfl g (off + k * 12) A rfl (range_kinP HR.out) Try.underlying37 rfl Hi.out ?_
        simp only [List.getElem_toArray, List.getElem_cons_succ, List.getElem_cons_zero, Act.put, List.setIfInBounds_toArray, List.set_cons_zero, List.set_cons_succ]
        refine wpQuiet_load_midP rfl 26 (.tmp 3) rfl w.heap.size 0 _ rfl (range_kinP HRh.out) Try.underlying26 rfl infoHP ?_
        simp only [List.getElem_toArray, List.getElem_cons_succ, List.getElem_cons_zero, Act.put, List.setIfInBounds_toArray, List.set_cons_zero, List.set_cons_succ]
        go_big_quiet_step (first | (go_at_call 5; exact kin_call (hM' _)))
        refine wpQuiet_nil ?_
        rintro wq ⟨⟨xq, hxq⟩, hyq⟩
        have HQ : Hid (Below w0.heap.size w0 wq) := by show Below _ _ _; rw [hyq]; exact HB.out.trans (hxq.mono HB.out.size)
        clear hyq hxq xq kne HB HR HRh Hi hM'
        cases mt0 with
        | false =>
          have Hq : Hid ((l.take (k + 1)).countP (fun R => matchR R h) = C) := show _ = C by have := Hst.out; simpa using this
          clear Hst
          go_wp2_with (fail)
          go_roundw
          case rel => exact ⟨k + 1, by omega, by rw [Hq.out], by go_num, HQ.out⟩
          case measure => simp [intOf]; omega
        | true =>
          have Hq : Hid ((l.take (k + 1)).countP (fun R => matchR R h) = C + 1) := show _ = C + 1 by have := Hst.out; simpa using this
          clear Hst
          go_wp2_with (fail)
          go_roundw
          case rel => exact ⟨k + 1, by omega, by rw [Hq.out]; go_num, by go_num, HQ.out⟩
          case measure => simp [intOf]; omega
      · obtain rfl : k = n := by omega
        have hni : ¬ (k : Int) < (k : Int) := by omega
        have HBw : Hid (Below w.heap.size w wr) := bel_of HB0.out HB.out HB0.out.size
        have hP := pairsC l h _ wr (HS.out.keep HBw.out) (by rw [← Hn.out]; exact hnb) HBd.out oh
        have hX := blk_on HX0.out HB.out
        have z0 := blk_cell (j := 0) hX rfl
        have z1 := blk_cell (j := 1) hX rfl
        have z2 := blk_cell (j := 2) hX rfl
        have z3 := blk_cell (j := 3) hX rfl
        have z4 := blk_cell (j := 4) hX rfl
        have h1 : (l.take k).countP (fun R => matchR R h) ≤ prsN l h := by rw [Hn.out, List.take_length]; exact mat_le l h
        have h2 : prsN l h ≤ k := by rw [Hn.out]; exact List.countP_le_length
        clear hX
        generalize (l.take k).countP (fun R => matchR R h) = C at *
        generalize prsN l h = D at *
        have h1i : (C : Int) ≤ (D : Int) := by omega
        have h2i : (D : Int) ≤ (k : Int) := by omega
        go_wp2_with (go_at_call 6; fail)
        refine hP.mono ?_
        rintro e w3 ⟨rfl, hb3⟩
        have HB3 : Hid (Below w.heap.size w w3) := bel_of HBw.out hb3 HBw.out.size
        clear hb3 hP z0 z1 z2 z3 z4
        go_wp2_with (go_at_call 4; fail)
        refine (awakeC _).mono ?_
        rintro e w4 ⟨rfl, hb4⟩
        have HB4 : Hid (Below w.heap.size w w4) := bel_of HB3.out hb4 HB3.out.size
        clear hb4
        go_wp2
        go_ret
        exact ⟨rfl, HB4.out⟩

set_option maxRecDepth 100000 in
theorem nestPairs_lifted (os : Os) (started : os.Started) (H : Type) (enc : TypeId × Value → H) :
    ReturnsInHanded {} Try.checked os 3 .any (Rows.nestPairsSpec.pre6 enc Try.prog Try.f3 Rows.nestPairsRow.domain false) (Rows.nestPairsSpec.post enc Try.prog Try.f3 false true false false) := by
  refine returnsInHanded_of_change (C := Try.checked) own started (by kernel_rfl) Try.func3
    (ChangeSpec.witness6 (enc := enc) (C := Try.checked) false ⟨#[], #[.slice none 0 0, .agg #[.int .u32 0, .int .u32 0, .int .u16 0, .int .u16 0, .int .u8 0]], []⟩ 8 (by kernel_rfl) (by kernel_rfl) (by kernel_rfl) (by kernel_rfl)) ?_
  intro W base args ds gs before hval0 hW hcnd _
  have hval : ∀ (j : Nat) t v, Try.f3.params[j]? = some t → args[j]? = some v → Value.okWide Try.prog W .any base t v := hval0
  have hW' := hW
  obtain ⟨p, q, hA0, hV, rfl, hfz, hnd⟩ := hW
  have hA : DataW.TrodAll enc Try.prog W 0 (fun _ => true) true Try.f3.params.toList args.toList ds p := hA0
  rw [Try.params3] at hA hval
  obtain ⟨v0, vs0, d0, ds0, p0, q0, hargs, rfl, rfl, h0, r0⟩ := trodAll_cons hA
  obtain ⟨v1, vs1, d1, ds1, p1, q1, rfl, rfl, rfl, h1, r1⟩ := trodAll_cons r0
  obtain ⟨rfl, rfl, rfl⟩ := trodAll_nil r1
  obtain rfl : args = #[v0, v1] := by cases args; simp_all
  obtain ⟨rfl, rfl⟩ := trodVars_none hV
  have hlt0 : ∀ x ∈ p0, x.block < W.heap.size := fun x hx => by simpa using hW'.lt x (by simp [hx])
  obtain ⟨l0, s0, bd0⟩ := open_rus (hval 0 22 v0 rfl rfl) h0
  have hlt1 : ∀ x ∈ p1, x.block < W.heap.size := fun x hx => by simpa using hW'.lt x (by simp [hx])
  obtain ⟨a1, rfl, b1⟩ := open_hd (hval 1 26 v1 rfl rfl) h1
  clear hA0 hval0
  simp only [List.append_nil] at hW'
  refine (nestPairs_walk l0 v0 bd0 a1 b1 W s0).mono fun e W' ⟨he, bel⟩ => ?_
  subst he
  exact ⟨_, rfl, _, _, _, [], _, [], hW', trodAll_mk1 (shut_bool Try.underlying4 _), (trodAll_cons_mk (Below.trod laidOut (by kernel_rfl) (of_decide_eq_true (by kernel_rfl)) h0 bel hlt0) (trodAll_cons_mk (Below.trod laidOut (by kernel_rfl) (of_decide_eq_true (by kernel_rfl)) h1 bel hlt1) trodAll_mk0)), rfl, bel.frame _, fun h => by cases h⟩

/-- The given statement. -/
theorem nestPairs_holds : Rows.NestPairsSaid :=
  OpenClaim.holds_of_wide 3 Try.f3 rfl rfl rfl rfl rfl rfl rfl ⟨rfl, rfl, rfl, rfl, rfl⟩ rfl rfl rfl rfl rfl (by kernel_rfl) Try.func3 (by kernel_rfl)
    (of_decide_eq_true (by kernel_rfl)) (by unfold Func.isWrapper; first | (rw [if_pos (by decide +kernel)]; kernel_rfl) | (rw [if_neg (by decide +kernel)]; exact ⟨rfl, rfl⟩))
    (fun os started H enc _ => nestPairs_lifted os started H enc)
#print axioms nestPairs_holds
end Go.Proofs.Ytcjpjofoddpfhab
