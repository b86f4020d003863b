/-
  For every list of protocols and every mask, the hull of the protocols may be, holds each of them, and lies within the mask if that holds them all (P4.6); and the examples of the document hold.
  Conditions: none; the law holds for every input.
-/
import Derived.Test.YtphfjhkbbodfaabMkAw
import Derived.Test.YtphfjhkbbodfaabMkFrame
namespace Go.Proofs.Ytphfjhkbbodfaab
open Go.ChangeShapes Go.WideShapes Go.ChangeAt Go.RowKit Go.Joins
set_option linter.unusedVariables false
set_option linter.unusedSimpArgs false

set_option maxHeartbeats 4000000 in
theorem maskWraps_walk (l : List Nat) (lv : Value) (bd : BdB l) (ml : l.length ≤ maxLen) (v c : Nat) (hv : v < 256) (hc : c < 256) (w : World) (hs : SrcB w lv l) :
    Calls Try.prog 4 #[lv, .agg #[.int .u8 v, .int .u8 c]] w fun e w' => e = .returned (.bool true) ∧ Below w.heap.size w w' := by
  have hs2 := hs
  obtain ⟨ad, cap, rfl, hat⟩ := hs
  by_cases h0 : 0 < l.length
  · by_cases hbig : l.length ≤ 16777216
    · have hhull := fun W (h : SrcB W (.slice ad l.length cap) l) => hull_some l (.slice ad l.length cap) W h (by omega) bd l[0] ⟨h0, rfl⟩
      have hy8 : l[0] < 256 := bd _ (List.getElem_mem _)
      have HF1 : Hid (∀ p ∈ l, hasM (l[0] &&& hullC l[0] l) (hullC l[0] l) p = true) := fun p hp => hull_has hy8 bd hp
      have HF2 : okM (l[0] &&& hullC l[0] l) (hullC l[0] l) = true := hull_ok _ _
      have HF3 : Hid ((∀ p ∈ l, hasM v c p = true) → wiM (l[0] &&& hullC l[0] l) (hullC l[0] l) v c = true) := fun h => hull_least hy8 bd (List.getElem_mem _) hv hc h
      have b1 : l[0] &&& hullC l[0] l < 256 := and_lt hy8
      have b2 : hullC l[0] l < 256 := hullC_lt _ _
      generalize l[0] &&& hullC l[0] l = p1 at hhull HF1 HF2 HF3 b1
      generalize hullC l[0] l = p2 at hhull HF1 HF2 HF3 b2
      have hne : ¬ ((l.length : Nat) : Int) = 0 := by omega
      have hnil : ¬ l = [] := by intro e; rw [e] at h0; simp at h0
      have hbe : (((l.length : Nat) : Int) == 0) = false := by rw [beq_eq_false_iff_ne]; exact hne
      have hng : ¬ (16777216 : Int) < ((l.length : Nat) : Int) := by omega
      have hnd : decide ((16777216 : Int) < ((l.length : Nat) : Int)) = false := decide_eq_false hng
      go_enter Try.func4, Try.ntmps4
      go_wp2_with (fail)
      refine (hhull _ (hs2.keep ((Below.refl _ _).alloc (Nat.le_refl _) _))).mono ?_
      rintro e w1 ⟨rfl, hb1⟩
      have a0 : w1.cell? ⟨w.heap.size, 0, none⟩ = some (.int .u8 v) := cell_on1 hb1 (by simp [go_sem])
      have a1 : w1.cell? ⟨w.heap.size, 1, none⟩ = some (.int .u8 c) := cell_on1 hb1 (by simp [go_sem])
      have hs1 : Hid (SrcB w1 (.slice ad l.length cap) l) := (hs2.keep ((Below.refl _ _).alloc (Nat.le_refl _) _)).keep hb1
      have hbw1 : Hid (Below w.heap.size w w1) := by show Below _ _ _; (repeat (first | assumption | exact Below.refl _ _ | refine Below.drew ?_ | refine bel_drewN ?_ _ | refine Below.setCell ?_ (by first | omega | (simp; done) | (simp; omega)) _ | refine Below.alloc ?_ (by first | omega | (simp; done) | (simp; omega)) _ | refine bel_of ?_ (by assumption)))
      have hz1 := hb1.size
      simp at hz1
      clear hb1 hs2 hhull hat
      go_wp2_with (fail)
      obtain ⟨W, hW⟩ : ∃ W, W = w1.alloc (.cells #[.int .u8 p1, .int .u8 p2] 23) := ⟨_, rfl⟩
      have A0 : W.cell? ⟨w.heap.size, 0, none⟩ = some (.int .u8 v) := by rw [hW]; exact cell_on1 ((Below.refl _ _).alloc (Nat.le_refl _) _) a0
      have A1 : W.cell? ⟨w.heap.size, 1, none⟩ = some (.int .u8 c) := by rw [hW]; exact cell_on1 ((Below.refl _ _).alloc (Nat.le_refl _) _) a1
      have P0 : W.cell? ⟨w1.heap.size, 0, none⟩ = some (.int .u8 p1) := by rw [hW]; simp [go_sem]
      have P1 : W.cell? ⟨w1.heap.size, 1, none⟩ = some (.int .u8 p2) := by rw [hW]; simp [go_sem]
      have hsW : Hid (SrcB W (.slice ad l.length cap) l) := by rw [hW]; exact hs1.out.keep ((Below.refl _ _).alloc (Nat.le_refl _) _)
      have hbW : Hid (Below w.heap.size w W) := by rw [hW]; exact hbw1.out.alloc (by omega) _
      have hzW := hbW.out.size
      rw [← hW]
      clear hs1 hbw1 a0 a1 hW
      go_loopw [7, 8] (fun bv iv wr => ∃ k : Nat, k ≤ l.length ∧ iv = .int .i64 k ∧ bv = .bool ((l.take k).all (hasM v c)) ∧ Hid (Below W.heap.size W wr)) (fun _ iv _ => l.length - (intOf iv).toNat)
      case atStart => exact ⟨0, Nat.zero_le _, rfl, rfl, Below.refl _ _⟩
      case round =>
        obtain ⟨k, hk, rfl, rfl, hbw⟩ := hrel
        have a0 := cell_on1 hbw.out A0
        have a1 := cell_on1 hbw.out A1
        have e0 := cell_on1 hbw.out P0
        have e1 := cell_on1 hbw.out P1
        have hz := hbw.out.size
        by_cases hlt : k < l.length
        · obtain ⟨ad', cap', he, hat⟩ := (hsW.out.keep hbw.out)
          simp only [Value.slice.injEq] at he
          obtain ⟨rfl, _, rfl⟩ := he
          obtain ⟨g, off, rfl, hat2⟩ := hat h0
          have x0 := hat2 k hlt
          obtain ⟨p, hp⟩ : ∃ p, p = l[k] := ⟨_, rfl⟩
          have hmem : p ∈ l := by rw [hp]; exact List.getElem_mem _
          have hp8 := bd p hmem
          have hh1 : hasM p1 p2 p = true := HF1.out p hmem
          rw [← hp] at x0
          have HN : Hid ((l.take (k + 1)).all (hasM v c) = ((l.take k).all (hasM v c) && hasM v c p)) := by show _ = _; rw [takeB hlt, List.all_append, ← hp, List.all_cons, List.all_nil, Bool.and_true]
          have hc1 := fun W => hasC p1 p2 p W hp8 b2
          rw [hh1] at hc1
          have hc2 := fun W => hasC v c p W hp8 hc
          generalize (l.take k).all (hasM v c) = al at HN
          generalize hasM v c p = ap at HN hc2
          have hlt' : (k : Int) < ((l.length : Nat) : Int) := by omega
          have hk0 : (0 : Int) ≤ (k : Int) := by omega
          clear hat hat2 hp hmem A0 A1 P0 P1 hh1 HF1 HF3
          go_wp2_with (fail)
          have kne : Nonempty (Kin wr) := ⟨⟨_, Below.refl _ _⟩⟩
          have kc0 : ∀ y : Kin wr, y.val.cell? ⟨w1.heap.size, 0, none⟩ = some (.int .u8 p1) := fun y => cell_on1 y.is e0
          have kc1 : ∀ y : Kin wr, y.val.cell? ⟨w1.heap.size, 1, none⟩ = some (.int .u8 p2) := fun y => cell_on1 y.is e1
          have kc2 : ∀ y : Kin wr, y.val.cell? ⟨g, off + k, none⟩ = some (.int .u8 p) := fun y => cell_on1 y.is x0
          refine wp_region_kin wr (Below.refl _ _) (by kernel_rfl) (by kernel_rfl) ?_
          repeat (go_big_quiet_step (first | (go_at_call 8; exact kin_call (hc1 _))))
          refine wpQuiet_nil ?_
          rintro wq ⟨⟨xq, hxq⟩, hyq⟩
          have hbq : Below wr.heap.size wr wq := by rw [hyq]; exact hxq
          clear hyq hxq xq kne kc0 kc1 kc2
          have q0 := cell_on1 hbq a0
          have q1 := cell_on1 hbq a1
          have qx := cell_on1 hbq x0
          have hbQ : Hid (Below W.heap.size W wq) := hbw.out.trans (hbq.mono hz)
          have hzq := hbQ.out.size
          clear hbq a0 a1 e0 e1 x0 hbw hc1
          cases al
          · go_wp2_with (fail)
            have kne : Nonempty (Kin wq) := ⟨⟨_, Below.refl _ _⟩⟩
            refine wp_region_kin wq (Below.refl _ _) (by kernel_rfl) (by kernel_rfl) ?_
            repeat (go_big_quiet_step (first | fail))
            refine wpQuiet_nil ?_
            rintro wr ⟨⟨xq, hxq⟩, hyq⟩
            have hbr : Below wq.heap.size wq wr := by rw [hyq]; exact hxq
            clear hyq hxq xq kne 
            have hbR : Hid (Below W.heap.size W wr) := hbQ.out.trans (hbr.mono hzq)
            clear hbr q0 q1 qx hbQ
            go_wp2_with (fail)
            go_roundw
            case rel => exact ⟨k + 1, by omega, by go_num, by rw [HN.out]; rfl, hbR.out⟩
            case measure => simp [intOf]; omega
          · go_wp2_with (fail)
            have kne : Nonempty (Kin wq) := ⟨⟨_, Below.refl _ _⟩⟩
            have kc0 : ∀ y : Kin wq, y.val.cell? ⟨w.heap.size, 0, none⟩ = some (.int .u8 v) := fun y => cell_on1 y.is q0
            have kc1 : ∀ y : Kin wq, y.val.cell? ⟨w.heap.size, 1, none⟩ = some (.int .u8 c) := fun y => cell_on1 y.is q1
            have kc2 : ∀ y : Kin wq, y.val.cell? ⟨g, off + k, none⟩ = some (.int .u8 p) := fun y => cell_on1 y.is qx
            refine wp_region_kin wq (Below.refl _ _) (by kernel_rfl) (by kernel_rfl) ?_
            repeat (go_big_quiet_step (first | (go_at_call 8; exact kin_call (hc2 _))))
            refine wpQuiet_nil ?_
            rintro wr ⟨⟨xq, hxq⟩, hyq⟩
            have hbr : Below wq.heap.size wq wr := by rw [hyq]; exact hxq
            clear hyq hxq xq kne kc0 kc1 kc2
            have hbR : Hid (Below W.heap.size W wr) := hbQ.out.trans (hbr.mono hzq)
            clear hbr q0 q1 qx hbQ
            go_wp2_with (fail)
            go_roundw
            case rel => exact ⟨k + 1, by omega, by go_num, by rw [HN.out]; simp, hbR.out⟩
            case measure => simp [intOf]; omega
        · obtain rfl : k = l.length := by omega
          rw [List.take_length]
          have hbw0 : Hid (Below w.heap.size w wr) := hbW.out.trans (hbw.out.mono hzW)
          have hz0 := hbw0.out.size
          have hck := fun W => checkM p1 p2 W b1 b2
          rw [chk_ok HF2] at hck
          have hwi := fun W => withinM p1 p2 v c W b1 b2 hv hc
          have HE : Hid (l.all (hasM v c) = true → wiM p1 p2 v c = true) := fun h => HF3.out fun p hp => (List.all_eq_true.1 h) p hp
          generalize l.all (hasM v c) = al at HE
          generalize wiM p1 p2 v c = wi at HE hwi
          clear HF1 HF3 hbw hbW A0 A1 P0 P1 hsW
          go_wp2_with (fail)
          refine (awakeM _).mono ?_
          rintro e w4 ⟨rfl, hb4⟩
          have c0 := cell_on1 hb4 a0
          have c1 := cell_on1 hb4 a1
          have d0 := cell_on1 hb4 e0
          have d1 := cell_on1 hb4 e1
          have hbw4 : Hid (Below w.heap.size w w4) := hbw0.out.trans (hb4.mono hz0)
          have hz4 := hbw4.out.size
          clear hb4 a0 a1 e0 e1 hbw0
          go_wp2_with (fail)
          refine (hck _).mono ?_
          rintro e w5 ⟨rfl, hb5⟩
          have a0 := cell_on1 hb5 c0
          have a1 := cell_on1 hb5 c1
          have e0 := cell_on1 hb5 d0
          have e1 := cell_on1 hb5 d1
          have hbw5 : Hid (Below w.heap.size w w5) := hbw4.out.trans (hb5.mono hz4)
          have hz5 := hbw5.out.size
          clear hb5 c0 c1 d0 d1 hbw4 hck
          cases al
          · go_wp2_with (fail)
            go_ret
            exact ⟨rfl, hbw5.out⟩
          · obtain rfl : wi = true := HE.out rfl
            go_wp2_with (fail)
            refine (hwi _).mono ?_
            rintro e w6 ⟨rfl, hb6⟩
            have hbw6 : Hid (Below w.heap.size w w6) := hbw5.out.trans (hb6.mono hz5)
            clear hb6 hbw5
            go_wp2_with (fail)
            go_ret
            exact ⟨rfl, hbw6.out⟩
    · have hng : (16777216 : Int) < ((l.length : Nat) : Int) := by omega
      have hnd : decide ((16777216 : Int) < ((l.length : Nat) : Int)) = true := decide_eq_true hng
      have hne : ¬ ((l.length : Nat) : Int) = 0 := by omega
      have hnil : ¬ l = [] := by intro e; rw [e] at h0; simp at h0
      have hbe : (((l.length : Nat) : Int) == 0) = false := by rw [beq_eq_false_iff_ne]; exact hne
      clear hat hs2
      go_enter Try.func4, Try.ntmps4
      go_wp2_with (fail)
      refine (awakeM _).mono ?_
      rintro e w1 ⟨rfl, hb1⟩
      have hbw1 : Hid (Below w.heap.size w w1) := by show Below _ _ _; (repeat (first | assumption | exact Below.refl _ _ | refine Below.drew ?_ | refine bel_drewN ?_ _ | refine Below.setCell ?_ (by first | omega | (simp; done) | (simp; omega)) _ | refine Below.alloc ?_ (by first | omega | (simp; done) | (simp; omega)) _ | refine bel_of ?_ (by assumption)))
      clear hb1
      go_wp2_with (fail)
      go_ret
      exact ⟨rfl, hbw1.out⟩
  · obtain rfl : l = [] := List.eq_nil_of_length_eq_zero (by omega)
    clear hat hs2
    have hd0 : decide ((16777216 : Int) < 0) = false := by decide
    go_enter Try.func4, Try.ntmps4
    go_wp2_with (fail)
    refine (awakeM _).mono ?_
    rintro e w1 ⟨rfl, hb1⟩
    have hbw1 : Hid (Below w.heap.size w w1) := by show Below _ _ _; (repeat (first | assumption | exact Below.refl _ _ | refine Below.drew ?_ | refine bel_drewN ?_ _ | refine Below.setCell ?_ (by first | omega | (simp; done) | (simp; omega)) _ | refine Below.alloc ?_ (by first | omega | (simp; done) | (simp; omega)) _ | refine bel_of ?_ (by assumption)))
    clear hb1
    go_wp2_with (fail)
    go_ret
    exact ⟨rfl, hbw1.out⟩

set_option maxRecDepth 100000 in
theorem maskWraps_lifted (os : Os) (started : os.Started) (H : Type) (enc : TypeId × Value → H) :
    ReturnsInHanded {} Try.checked os 4 .any (Rows.maskWrapsSpec.pre6 enc Try.prog Try.f4 Rows.maskWrapsRow.domain false) (Rows.maskWrapsSpec.post enc Try.prog Try.f4 false true false false) := by
  refine returnsInHanded_of_change (C := Try.checked) own started (by kernel_rfl) Try.func4
    (ChangeSpec.witness6 (enc := enc) (C := Try.checked) false ⟨#[], #[.slice none 0 0, .agg #[.int .u8 0, .int .u8 0]], []⟩ 8 (by kernel_rfl) (by kernel_rfl) (by kernel_rfl) (by kernel_rfl)) ?_
  intro W base args ds gs before hval0 hW hcnd _
  have hval : ∀ (j : Nat) t v, Try.f4.params[j]? = some t → args[j]? = some v → Value.okWide Try.prog W .any base t v := hval0
  have hW' := hW
  obtain ⟨p, q, hA0, hV, rfl, hfz, hnd⟩ := hW
  have hA : DataW.TrodAll enc Try.prog W 0 (fun _ => true) true Try.f4.params.toList args.toList ds p := hA0
  rw [Try.params4] at hA hval
  obtain ⟨v0, vs0, d0, ds0, p0, q0, hargs, rfl, rfl, h0, r0⟩ := trodAll_cons hA
  obtain ⟨v1, vs1, d1, ds1, p1, q1, rfl, rfl, rfl, h1, r1⟩ := trodAll_cons r0
  obtain ⟨rfl, rfl, rfl⟩ := trodAll_nil r1
  obtain rfl : args = #[v0, v1] := by cases args; simp_all
  obtain ⟨rfl, rfl⟩ := trodVars_none hV
  have hlt0 : ∀ x ∈ p0, x.block < W.heap.size := fun x hx => by simpa using hW'.lt x (by simp [hx])
  obtain ⟨l0, s0, bd0, ml0⟩ := open_bys (hval 0 36 v0 rfl rfl) h0
  obtain ⟨a1, n1, rfl, rfl, rfl, w1, x1⟩ := open_mk (hval 1 23 v1 rfl rfl) h1
  obtain ⟨b1, rfl, t1⟩ := wf_u8 w1
  obtain ⟨c1, rfl, u1⟩ := wf_u8 x1
  clear hA0 hval0
  simp only [List.append_nil] at hW'
  refine (maskWraps_walk l0 v0 bd0 ml0 b1 c1 t1 u1 W s0).mono fun e W' ⟨he, bel⟩ => ?_
  subst he
  exact ⟨_, rfl, _, _, _, [], _, [], hW', trodAll_mk1 (shut_bool Try.underlying4 _), (trodAll_cons_mk (Below.trod laidOut (by kernel_rfl) (of_decide_eq_true (by kernel_rfl)) h0 bel hlt0) (trodAll_cons_mk (shut_mk w1 x1) trodAll_mk0)), rfl, bel.frame _, fun h => by cases h⟩

/-- The given statement. -/
theorem maskWraps_holds : Rows.MaskWrapsSaid :=
  OpenClaim.holds_of_wide 4 Try.f4 rfl rfl rfl rfl rfl rfl rfl ⟨rfl, rfl, rfl, rfl, rfl⟩ rfl rfl rfl rfl rfl (by kernel_rfl) Try.func4 (by kernel_rfl)
    (of_decide_eq_true (by kernel_rfl)) (by unfold Func.isWrapper; first | (rw [if_pos (by decide +kernel)]; kernel_rfl) | (rw [if_neg (by decide +kernel)]; exact ⟨rfl, rfl⟩))
    (fun os started H enc _ => maskWraps_lifted os started H enc)
#print axioms maskWraps_holds
end Go.Proofs.Ytphfjhkbbodfaab
