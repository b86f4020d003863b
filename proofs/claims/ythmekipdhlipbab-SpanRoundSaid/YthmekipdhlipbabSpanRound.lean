/-
  For every list of spans and every port, the gaps of the gaps are the union, which is its own union; a port is in the union or in the gaps, and they have 65536 ports together; the examples of the document hold.
  Conditions: none; the law holds for every input.
-/
import Derived.Test.YthmekipdhlipbabSpAw
import Derived.Test.YthmekipdhlipbabSpFrame
namespace Go.Proofs.Ythmekipdhlipbab
open Go.ChangeShapes Go.WideShapes Go.ChangeAt Go.RowKit Go.Joins
set_option linter.unusedVariables false
set_option linter.unusedSimpArgs false

theorem total_take {l : List (Nat × Nat)} {k : Nat} (h : k < l.length) : total (l.take (k + 1)) = total (l.take k) + cntS (l[k]).1 (l[k]).2 := by
  rw [take_snoc h, total_append, total_one]; rfl
theorem hits_take {l : List (Nat × Nat)} {k : Nat} (h : k < l.length) (p : Nat) : hits (l.take (k + 1)) p = hits (l.take k) p + if hasB (l[k]) p then 1 else 0 := by
  rw [take_snoc h, hits_append, hits_one]
theorem total_take_le {l : List (Nat × Nat)} {k : Nat} : total (l.take k) ≤ total l := by
  have := total_append (l.take k) (l.drop k)
  rw [List.take_append_drop] at this
  omega
theorem hits_take_le {l : List (Nat × Nat)} {k p : Nat} : hits (l.take k) p ≤ hits l p := by
  have := hits_append (l.take k) (l.drop k) p
  rw [List.take_append_drop] at this
  omega
theorem round_gaps (p : Nat → Bool) : (canonOf fun i => !memB (canonOf fun i => !p i) i) = canonOf p := canonOf_congr fun i hi => by rw [canonOf_mem]; simp [hi]
theorem round_union (p : Nat → Bool) : canonOf (memB (canonOf p)) = canonOf p := canonOf_congr fun i hi => by rw [canonOf_mem]; simp [hi]
theorem bd_canon {l : List (Nat × Nat)} (h : Canon 0 l) : Bd l := fun s hs => by have := h.each s hs; omega
theorem round_total (p : Nat → Bool) : total (canonOf p) + total (canonOf fun i => !p i) = 65536 := by
  rw [total_canonOf, total_canonOf]; exact cnt_not p 65536
theorem round_hits (p : Nat → Bool) (i : Nat) (hi : i < 65536) : hits (canonOf p) i + hits (canonOf fun i => !p i) i = 1 := by
  rw [hits_canon (canonOf_canon _), hits_canon (canonOf_canon _), canonOf_mem, canonOf_mem]
  cases p i <;> simp [hi]
set_option maxHeartbeats 400000 in
theorem spanRound_long (l : List (Nat × Nat)) (v : Value) (p : Nat) (w : World) (hs : Src w v l) (hlong : 1048576 < l.length) :
    Calls Try.prog 6 #[v, .int .u16 p] w fun e w' => e = .returned (.bool true) ∧ Below w.heap.size w w' := by
  obtain ⟨ad, cap, rfl, _⟩ := hs
  have hl' : (1048576 : Int) < (l.length : Int) := by omega
  go_enter Try.func6, Try.ntmps6
  go_wp2
  go_ret
  exact ⟨rfl, Below.refl _ _⟩
set_option maxHeartbeats 2000000 in
theorem spanRound_walk (l : List (Nat × Nat)) (v : Value) (hbd : Bd l) (p : Nat) (hp : p < 65536) (w : World) (hs : Src w v l) :
    Calls Try.prog 6 #[v, .int .u16 p] w fun e w' => e = .returned (.bool true) ∧ Below w.heap.size w w' := by
  by_cases hlong : 1048576 < l.length
  · exact spanRound_long l v p w hs hlong
  have hll : l.length ≤ 4294967296 := by omega
  have hl' : ¬ (1048576 : Int) < (l.length : Int) := by omega
  obtain ⟨S, hS⟩ : ∃ S, S = memB l := ⟨_, rfl⟩
  have c1 := fun W (h : Src W v l) => unionS l v W h hll hbd
  have c2 := fun W (h : Src W v l) => gapsS l v W h hll hbd
  have P1 := round_total S
  have P2 := round_hits S p hp
  have hU := canonOf_canon S
  have hG := canonOf_canon fun i => !S i
  have hUn := length_canonOf S
  have hGn := length_canonOf fun i => !S i
  have c3 := fun v W (h : Src W v (canonOf fun i => !S i)) => gapsS _ v W h (by omega) (bd_canon hG)
  have c4 := fun v W (h : Src W v (canonOf S)) => unionS _ v W h (by omega) (bd_canon hU)
  rw [round_gaps] at c3
  rw [round_union] at c4
  rw [← hS] at c1 c2
  generalize canonOf S = U at *
  generalize (canonOf fun i => !S i) = G at *
  have HU : Hid (Canon 0 U) := hU
  have HG : Hid (Canon 0 G) := hG
  have HP1 : Hid (total U + total G = 65536) := P1
  have HP2 : Hid (hits U p + hits G p = 1) := P2
  have HSrc : Hid (Src w v l) := hs
  clear hS hU hG P1 P2 hbd hll hlong
  obtain ⟨lad, lcap, rfl, _⟩ := hs
  go_enter Try.func6, Try.ntmps6
  go_wp2_with (fail)
  refine (c1 _ HSrc.out).mono ?_
  rintro e w1 ⟨vU, rfl, rU, hb1⟩
  have hz1 := hb1.size
  (try simp at hz1)
  have U_1 : Hid (Row w1 w.heap.size vU (U)) := rU.base (by first | omega | (simp; done) | (simp; omega))
  clear rU
  have hl1 : w.heap.size ≤ w1.heap.size := by omega
  have hw1 : Hid (Below w.heap.size w w1) := (Below.refl _ _).trans (hb1.mono (by first | omega | (simp; done) | (simp; omega)))
  clear hb1
  go_wp2_with (fail)
  refine (c2 _ (HSrc.out.keep hw1.out)).mono ?_
  rintro e w2 ⟨vG, rfl, rG, hb2⟩
  have hz2 := hb2.size
  (try simp at hz2)
  have G_2 : Hid (Row w2 w.heap.size vG (G)) := rG.base (by first | omega | (simp; done) | (simp; omega))
  clear rG
  have U_2 : Hid (Row w2 w.heap.size vU (U)) := Row.on U_1.out hb2
  have hl2 : w.heap.size ≤ w2.heap.size := by omega
  have hw2 : Hid (Below w.heap.size w w2) := hw1.out.trans (hb2.mono (by first | omega | (simp; done) | (simp; omega)))
  clear hb2 U_1 hw1
  go_wp2_with (fail)
  refine (c3 _ _ (Row.src G_2.out)).mono ?_
  rintro e w3 ⟨vV, rfl, rV, hb3⟩
  have hz3 := hb3.size
  (try simp at hz3)
  have V_3 : Hid (Row w3 w.heap.size vV (U)) := rV.base (by first | omega | (simp; done) | (simp; omega))
  clear rV
  have U_3 : Hid (Row w3 w.heap.size vU (U)) := Row.on U_2.out hb3
  have G_3 : Hid (Row w3 w.heap.size vG (G)) := Row.on G_2.out hb3
  have hl3 : w.heap.size ≤ w3.heap.size := by omega
  have hw3 : Hid (Below w.heap.size w w3) := hw2.out.trans (hb3.mono (by first | omega | (simp; done) | (simp; omega)))
  clear hb3 U_2 G_2 hw2
  go_wp2_with (fail)
  refine (c4 _ _ (Row.src U_3.out)).mono ?_
  rintro e w4 ⟨vW, rfl, rW, hb4⟩
  have hz4 := hb4.size
  (try simp at hz4)
  have W_4 : Hid (Row w4 w.heap.size vW (U)) := rW.base (by first | omega | (simp; done) | (simp; omega))
  clear rW
  have U_4 : Hid (Row w4 w.heap.size vU (U)) := Row.on U_3.out hb4
  have G_4 : Hid (Row w4 w.heap.size vG (G)) := Row.on G_3.out hb4
  have V_4 : Hid (Row w4 w.heap.size vV (U)) := Row.on V_3.out hb4
  have hl4 : w.heap.size ≤ w4.heap.size := by omega
  have hw4 : Hid (Below w.heap.size w w4) := hw3.out.trans (hb4.mono (by first | omega | (simp; done) | (simp; omega)))
  clear hb4 U_3 G_3 V_3 hw3
  have hTb : total U + total G ≤ 65536 := by rw [HP1.out]; exact Nat.le_refl _
  have hHb : hits U p + hits G p ≤ 1 := by rw [HP2.out]; exact Nat.le_refl _
  clear c1 c2 c3 c4
  obtain ⟨ladU, lcapU, hlvU, hlcapU, hlatU⟩ := U_4.out.form
  subst hlvU
  go_wp2_with (fail)
  go_loopw [9, 10, 11] (fun cv nv iv wr => ∃ k : Nat, k ≤ U.length ∧ iv = .int .i64 k ∧ nv = .int .i64 ((0 + total (U.take k) : Nat) : Int) ∧ cv = .int .i64 ((0 + hits (U.take k) p : Nat) : Int) ∧ Hid (Below w4.heap.size w4 wr)) (fun _ _ iv _ => U.length - (intOf iv).toNat)
  case atStart => exact ⟨0, Nat.zero_le _, rfl, by simp [total_nil], by simp [hits_nil], Below.refl _ _⟩
  case round =>
    obtain ⟨k, hk, rfl, rfl, rfl, hbl⟩ := hrel
    have ht1 : total (U.take k) ≤ total U := total_take_le
    have ht2 : hits (U.take k) p ≤ hits U p := hits_take_le
    by_cases hlt : k < U.length
    · obtain ⟨g, rfl, hgb, hgl, hcell⟩ := hlatU (by omega)
      obtain ⟨s, hs⟩ : ∃ s, s = U[k] := ⟨_, rfl⟩
      obtain ⟨x0, x1⟩ := hcell k hlt
      rw [← hs] at x0 x1
      have y0 := (hbl.out.cell (World.block_lt_of_cell? _ _ x0)).trans x0
      have y1 := (hbl.out.cell (World.block_lt_of_cell? _ _ x1)).trans x1
      have hse := HU.out.each s (by rw [hs]; exact List.getElem_mem _)
      have e1 : total (U.take (k + 1)) = total (U.take k) + cntS s.1 s.2 := by rw [hs]; exact total_take hlt
      have e2 : hits (U.take (k + 1)) p = hits (U.take k) p + if hasB s p then 1 else 0 := by rw [hs]; exact hits_take hlt p
      have ht3 : total (U.take (k + 1)) ≤ total U := total_take_le
      have ht4 : hits (U.take (k + 1)) p ≤ hits U p := hits_take_le
      have hcn : cntS s.1 s.2 ≤ 65536 := by omega
      have E1 : Hid (total (U.take (k + 1)) = total (U.take k) + cntS s.1 s.2) := e1
      have E2 : Hid (hits (U.take (k + 1)) p = hits (U.take k) p + if hasB s p then 1 else 0) := e2
      generalize hN : total (U.take k) = N at *
      generalize hI : hits (U.take k) p = I at *
      clear hlatU hcell x0 x1 hs e1 e2 hN hI
      go_wp2_with (fail)
      refine (countS s.1 s.2 _ (by omega) (by omega)).mono ?_
      rintro e w5 ⟨rfl, hb5⟩
      have z0 := cell_on hb5 y0
      have z1 := cell_on hb5 y1
      have hb5' : Hid (Below w4.heap.size w4 w5) := hbl.out.trans (hb5.mono hbl.out.size)
      generalize hcnt : cntS s.1 s.2 = cn at *
      go_wp2_with (fail)
      refine (hasS s.1 s.2 p _).mono ?_
      rintro e w6 ⟨rfl, hb6⟩
      have hb6' : Hid (Below w4.heap.size w4 w6) := hb5'.out.trans (hb6.mono hb5'.out.size)
      clear z0 z1 hb5 hb6 hb5' y0 y1
      by_cases hh : hasB (s.1, s.2) p = true
      · rw [hh]
        have E3 : Hid (hits (U.take (k + 1)) p = I + 1) := by show _ = _; rw [E2.out, if_pos hh]
        go_wp2
        go_roundw
        case rel => exact ⟨k + 1, by omega, by go_num, by rw [E1.out]; go_num, by rw [E3.out]; go_num, hb6'⟩
        case measure => simp [intOf]; omega
      · rw [show hasB (s.1, s.2) p = false by simpa using hh]
        have E3 : Hid (hits (U.take (k + 1)) p = I) := by show _ = _; rw [E2.out, if_neg hh]; rfl
        go_wp2
        go_roundw
        case rel => exact ⟨k + 1, by omega, by go_num, by rw [E1.out]; go_num, by rw [E3.out]; go_num, hb6'⟩
        case measure => simp [intOf]; omega
    · obtain rfl : k = U.length := by omega
      have hN : 0 + total (U.take U.length) = total U := by rw [List.take_length]; omega
      have hI : 0 + hits (U.take U.length) p = hits U p := by rw [List.take_length]; omega
      rw [hN, hI]
      clear hN hI ht1 ht2 hlatU
      have HBL : Hid (Below w4.heap.size w4 wr) := hbl
      clear hbl
      obtain ⟨ladG, lcapG, hlvG, hlcapG, hlatG⟩ := G_4.out.form
      subst hlvG
      go_wp2_with (fail)
      go_loopw [9, 10, 12] (fun cv nv iv wr => ∃ k : Nat, k ≤ G.length ∧ iv = .int .i64 k ∧ nv = .int .i64 ((total U + total (G.take k) : Nat) : Int) ∧ cv = .int .i64 ((hits U p + hits (G.take k) p : Nat) : Int) ∧ Hid (Below w4.heap.size w4 wr)) (fun _ _ iv _ => G.length - (intOf iv).toNat)
      case atStart => exact ⟨0, Nat.zero_le _, rfl, by simp [total_nil], by simp [hits_nil], HBL⟩
      case round =>
        obtain ⟨k, hk, rfl, rfl, rfl, hbl⟩ := hrel
        have ht1 : total (G.take k) ≤ total G := total_take_le
        have ht2 : hits (G.take k) p ≤ hits G p := hits_take_le
        by_cases hlt : k < G.length
        · obtain ⟨g, rfl, hgb, hgl, hcell⟩ := hlatG (by omega)
          obtain ⟨s, hs⟩ : ∃ s, s = G[k] := ⟨_, rfl⟩
          obtain ⟨x0, x1⟩ := hcell k hlt
          rw [← hs] at x0 x1
          have y0 := (hbl.out.cell (World.block_lt_of_cell? _ _ x0)).trans x0
          have y1 := (hbl.out.cell (World.block_lt_of_cell? _ _ x1)).trans x1
          have hse := HG.out.each s (by rw [hs]; exact List.getElem_mem _)
          have e1 : total (G.take (k + 1)) = total (G.take k) + cntS s.1 s.2 := by rw [hs]; exact total_take hlt
          have e2 : hits (G.take (k + 1)) p = hits (G.take k) p + if hasB s p then 1 else 0 := by rw [hs]; exact hits_take hlt p
          have ht3 : total (G.take (k + 1)) ≤ total G := total_take_le
          have ht4 : hits (G.take (k + 1)) p ≤ hits G p := hits_take_le
          have hcn : cntS s.1 s.2 ≤ 65536 := by omega
          have E1 : Hid (total (G.take (k + 1)) = total (G.take k) + cntS s.1 s.2) := e1
          have E2 : Hid (hits (G.take (k + 1)) p = hits (G.take k) p + if hasB s p then 1 else 0) := e2
          generalize hN : total (G.take k) = N at *
          generalize hI : hits (G.take k) p = I at *
          clear hlatG hcell x0 x1 hs e1 e2 hN hI
          go_wp2_with (fail)
          refine (countS s.1 s.2 _ (by omega) (by omega)).mono ?_
          rintro e w7 ⟨rfl, hb7⟩
          have z0 := cell_on hb7 y0
          have z1 := cell_on hb7 y1
          have hb7' : Hid (Below w4.heap.size w4 w7) := hbl.out.trans (hb7.mono hbl.out.size)
          generalize hcnt : cntS s.1 s.2 = cn at *
          go_wp2_with (fail)
          refine (hasS s.1 s.2 p _).mono ?_
          rintro e w8 ⟨rfl, hb8⟩
          have hb8' : Hid (Below w4.heap.size w4 w8) := hb7'.out.trans (hb8.mono hb7'.out.size)
          clear z0 z1 hb7 hb8 hb7' y0 y1
          by_cases hh : hasB (s.1, s.2) p = true
          · rw [hh]
            have E3 : Hid (hits (G.take (k + 1)) p = I + 1) := by show _ = _; rw [E2.out, if_pos hh]
            go_wp2
            go_roundw
            case rel => exact ⟨k + 1, by omega, by go_num, by rw [E1.out]; go_num, by rw [E3.out]; go_num, hb8'⟩
            case measure => simp [intOf]; omega
          · rw [show hasB (s.1, s.2) p = false by simpa using hh]
            have E3 : Hid (hits (G.take (k + 1)) p = I) := by show _ = _; rw [E2.out, if_neg hh]; rfl
            go_wp2
            go_roundw
            case rel => exact ⟨k + 1, by omega, by go_num, by rw [E1.out]; go_num, by rw [E3.out]; go_num, hb8'⟩
            case measure => simp [intOf]; omega
        · obtain rfl : k = G.length := by omega
          have hN : total U + total (G.take G.length) = 65536 := by rw [List.take_length]; exact HP1.out
          have hI : hits U p + hits (G.take G.length) p = 1 := by rw [List.take_length]; exact HP2.out
          rw [hN, hI]
          clear hN hI ht1 ht2 hlatG
          have hw9 : Hid (Below w.heap.size w wr) := hw4.out.trans (hbl.out.mono hl4)
          have u9 : Hid (Row wr w.heap.size _ U) := U_4.out.on hbl.out
          have v9 : Hid (Row wr w.heap.size _ U) := V_4.out.on hbl.out
          have x9 : Hid (Row wr w.heap.size _ U) := W_4.out.on hbl.out
          clear hbl
          go_wp2_with (fail)
          refine (awakeS _).mono ?_
          rintro e wa ⟨rfl, hba⟩
          have hwa : Hid (Below w.heap.size w wa) := hw9.out.trans (hba.mono hw9.out.size)
          go_wp2_with (fail)
          refine (sameS U (by omega) _ _ _ (u9.out.on hba).src (v9.out.on hba).src).mono ?_
          rintro e wb ⟨rfl, hbb⟩
          have hwb : Hid (Below w.heap.size w wb) := hwa.out.trans (hbb.mono hwa.out.size)
          go_wp2_with (fail)
          refine (sameS U (by omega) _ _ _ ((u9.out.on hba).on hbb).src ((x9.out.on hba).on hbb).src).mono ?_
          rintro e wc ⟨rfl, hbc⟩
          have hwc : Hid (Below w.heap.size w wc) := hwb.out.trans (hbc.mono hwb.out.size)
          go_wp2
          go_ret
          exact ⟨rfl, hwc.out⟩

set_option maxRecDepth 100000 in
theorem spanRound_lifted (os : Os) (started : os.Started) (H : Type) (enc : TypeId × Value → H) :
    ReturnsInHanded {} Try.checked os 6 .any (Rows.spanRoundSpec.pre6 enc Try.prog Try.f6 Rows.spanRoundRow.domain false) (Rows.spanRoundSpec.post enc Try.prog Try.f6 false true false false) := by
  refine returnsInHanded_of_change (C := Try.checked) own started (by kernel_rfl) Try.func6
    (ChangeSpec.witness6 (enc := enc) (C := Try.checked) false ⟨#[], #[.slice none 0 0, .int .u16 0], []⟩ 8 (by kernel_rfl) (by kernel_rfl) (by kernel_rfl) (by kernel_rfl)) ?_
  intro W base args ds gs before hval0 hW hcnd _
  have hval : ∀ (j : Nat) t v, Try.f6.params[j]? = some t → args[j]? = some v → Value.okWide Try.prog W .any base t v := hval0
  have hW' := hW
  obtain ⟨p, q, hA0, hV, rfl, hfz, hnd⟩ := hW
  have hA : DataW.TrodAll enc Try.prog W 0 (fun _ => true) true Try.f6.params.toList args.toList ds p := hA0
  rw [Try.params6] at hA hval
  obtain ⟨v0, vs0, d0, ds0, p0, q0, hargs, rfl, rfl, h0, r0⟩ := trodAll_cons hA
  obtain ⟨v1, vs1, d1, ds1, p1, q1, rfl, rfl, rfl, h1, r1⟩ := trodAll_cons r0
  obtain ⟨rfl, rfl, rfl⟩ := trodAll_nil r1
  obtain rfl : args = #[v0, v1] := by cases args; simp_all
  obtain ⟨rfl, rfl⟩ := trodVars_none hV
  have hlt0 : ∀ x ∈ p0, x.block < W.heap.size := fun x hx => by simpa using hW'.lt x (by simp [hx])
  obtain ⟨l0, s0, bd0⟩ := open_sps (hval 0 22 v0 rfl rfl) h0
  obtain ⟨a1, rfl, rfl, rfl, w1⟩ := open_int Try.underlying29 (hval 1 29 v1 rfl rfl) h1
  obtain ⟨b1, rfl, t1⟩ := wf_u16 w1
  clear hA0 hval0
  simp only [List.append_nil] at hW'
  refine (spanRound_walk l0 v0 bd0 b1 t1 W s0).mono fun e W' ⟨he, bel⟩ => ?_
  subst he
  exact ⟨_, rfl, _, _, _, [], _, [], hW', trodAll_mk1 (shut_bool Try.underlying4 _), (trodAll_cons_mk (Below.trod laidOut (by kernel_rfl) (of_decide_eq_true (by kernel_rfl)) h0 bel hlt0) (trodAll_cons_mk (shut_int Try.underlying29 w1) trodAll_mk0)), rfl, bel.frame _, fun h => by cases h⟩

/-- The given statement. -/
theorem spanRound_holds : Rows.SpanRoundSaid :=
  OpenClaim.holds_of_wide 6 Try.f6 rfl rfl rfl rfl rfl rfl rfl ⟨rfl, rfl, rfl, rfl, rfl⟩ rfl rfl rfl rfl rfl (by kernel_rfl) Try.func6 (by kernel_rfl)
    (of_decide_eq_true (by kernel_rfl)) (by unfold Func.isWrapper; first | (rw [if_pos (by decide +kernel)]; kernel_rfl) | (rw [if_neg (by decide +kernel)]; exact ⟨rfl, rfl⟩))
    (fun os started H enc _ => spanRound_lifted os started H enc)
#print axioms spanRound_holds
end Go.Proofs.Ythmekipdhlipbab
