/-
  Hull of the document's answer.
-/
import Derived.Test.YtphfjhkbbodfaaaMkH
import Derived.Test.YtphfjhkbbodfaaaMkD
import Derived.Deep.RegionWith
import Derived.Deep.DeepCutAuto
namespace Go.Proofs.Ytphfjhkbbodfaaa
open Go.RowKit
set_option linter.unusedVariables false
set_option linter.unusedSimpArgs false

theorem frozenOn {W w1 : World} (hb : Below W.heap.size W w1) {p : Addr} {v : Value} (h : W.cell? p = some v) {c : Bool} (hf : W.frozen? p = c) : w1.frozen? p = c := (hb.frozen (World.block_lt_of_cell? W p h)).trans hf
theorem u8_wrapH {z : Int} (h0 : 0 ≤ z) (h1 : z < 256) : IntKind.u8.wrap z = z := by
  simp [IntKind.wrap, IntKind.signed, IntKind.bits]
  omega
theorem rhull_nil (v : Value) (w : World) (h : SrcB w v []) :
    Calls Try.prog 27 #[v] w fun e w' => e = .returned (.tuple #[.agg #[.int .u8 0, .int .u8 0], .int .i64 1]) ∧ Below w.heap.size w w' := by
  obtain ⟨ad, cap, rfl, _⟩ := h
  go_enter Try.func27, Try.ntmps27
  go_wp2
  exact bodyPost_ret (v := .tuple #[.agg #[.int .u8 0, .int .u8 0], .int .i64 1]) (by simp [results, Try.results27, go_sem]) rfl ⟨rfl, by (repeat (first | assumption | exact Below.refl _ _ | refine Below.drew ?_ | refine bel_drewN ?_ _ | refine Below.setCell ?_ (by first | omega | (simp; done) | (simp; omega)) _ | refine Below.alloc ?_ (by first | omega | (simp; done) | (simp; omega)) _ | refine bel_of ?_ (by assumption)))⟩
/-- Are all of the bytes as y in the bit i? -/
def alk (y i : Nat) (l : List Nat) : Bool := l.all fun p => decide (tb p i = tb y i)
theorem alk_snoc (y i : Nat) (l : List Nat) (p : Nat) : alk y i (l ++ [p]) = (alk y i l && decide (tb p i = tb y i)) := by
  unfold alk; rw [List.all_append, List.all_cons, List.all_nil, Bool.and_true]
theorem alk_tb {y : Nat} (hy : y < 256) {l : List Nat} (hl : BdB l) {i : Nat} (hi : i < 8) : tb (hullC y l) i = if alk y i l then 1 else 0 := by
  have h := hullC_tb hy hl i hi
  have lt := tb_lt (hullC y l) i
  cases ha : alk y i l
  · rw [if_neg (by simp)]
    have : ¬ tb (hullC y l) i = 1 := by
      intro e
      have h2 := h.1 e
      have : alk y i l = true := by unfold alk; rw [List.all_eq_true]; intro p hp; exact decide_eq_true (h2 p hp)
      rw [this] at ha; cases ha
    omega
  · rw [if_pos rfl]
    refine h.2 fun p hp => ?_
    unfold alk at ha
    rw [List.all_eq_true] at ha
    exact of_decide_eq_true (ha p hp)
/-- The loop's own memory: out at B, all else as in W. -/
structure MemH (W wx : World) (B : Nat) (ov oc : Int) : Prop where
  o0 : wx.cell? ⟨B, 0, none⟩ = some (.int .u8 ov)
  o1 : wx.cell? ⟨B, 1, none⟩ = some (.int .u8 oc)
  fo : ∀ i, wx.frozen? ⟨B, i, none⟩ = false
  bel : Below B W wx
theorem MemH.drew {W wx : World} {B : Nat} {ov oc : Int} (h : MemH W wx B ov oc) : MemH W wx.drew B ov oc := ⟨h.o0, h.o1, h.fo, h.bel.drew⟩
theorem MemH.on {W wx wy : World} {B : Nat} {ov oc : Int} (h : MemH W wx B ov oc) (hb : Below wx.heap.size wx wy) : MemH W wy B ov oc :=
  ⟨cell_on1 hb h.o0, cell_on1 hb h.o1, fun i => (hb.frozen (p := ⟨B, i, none⟩) (World.block_lt_of_cell? _ ⟨B, 0, none⟩ h.o0)).trans (h.fo i), h.bel.trans (hb.mono (Nat.le_of_lt (World.block_lt_of_cell? _ ⟨B, 0, none⟩ h.o0)))⟩
theorem MemH.set0 {W wx : World} {B : Nat} {ov oc : Int} (h : MemH W wx B ov oc) (z : Int) : MemH W (wx.setCell ⟨B, 0, none⟩ (.int .u8 z)) B z oc := by
  have o0 := h.o0; have o1 := h.o1; have fo := h.fo
  exact ⟨by simp [go_sem, *], by simp [go_sem, *], fun i => by have := fo i; simp [go_sem, this], h.bel.setCell (Nat.le_refl _) _⟩
theorem MemH.set1 {W wx : World} {B : Nat} {ov oc : Int} (h : MemH W wx B ov oc) (z : Int) : MemH W (wx.setCell ⟨B, 1, none⟩ (.int .u8 z)) B ov z := by
  have o0 := h.o0; have o1 := h.o1; have fo := h.fo
  exact ⟨by simp [go_sem, *], by simp [go_sem, *], fun i => by have := fo i; simp [go_sem, this], h.bel.setCell (Nat.le_refl _) _⟩
set_option maxRecDepth 100000 in
set_option maxHeartbeats 8000000 in
theorem rhull_some (l : List Nat) (v : Value) (w : World) (h : SrcB w v l) (hl : l.length ≤ 4294967296) (hbd : BdB l) (y : Nat) (hy : ∃ h0 : 0 < l.length, y = l[0]) :
    Calls Try.prog 27 #[v] w fun e w' => e = .returned (.tuple #[.agg #[.int .u8 (y &&& hullC y l : Nat), .int .u8 (hullC y l : Nat)], .int .i64 0]) ∧ Below w.heap.size w w' := by
  obtain ⟨h0, hy⟩ := hy
  obtain ⟨ad, cap, rfl, h2⟩ := h
  obtain ⟨g, off, rfl, h3⟩ := h2 h0
  have y0 := h3 0 h0
  rw [← hy, Nat.add_zero] at y0
  have hy8 : y < 256 := by rw [hy]; exact hbd _ (List.getElem_mem _)
  have HT : Hid (∀ i, i < 8 → tb (hullC y l) i = if alk y i l then 1 else 0) := fun i hi => alk_tb hy8 hbd hi
  have HV : Hid (∀ i, tb (y &&& hullC y l) i = 1 ↔ (tb y i = 1 ∧ tb (hullC y l) i = 1)) := fun i => tb_and_one _ _ _
  have hH8 : hullC y l < 256 := hullC_lt _ _
  have hV8 : y &&& hullC y l < 256 := and_lt hy8
  generalize y &&& hullC y l = V at *
  generalize hullC y l = H at *
  obtain ⟨n, hn⟩ : ∃ n, n = l.length := ⟨_, rfl⟩
  have HLn : Hid (n = l.length) := hn
  rw [← hn] at hl ⊢
  have hne : ¬ ((n : Nat) : Int) = 0 := by omega
  have hbe : (((n : Nat) : Int) == 0) = false := by rw [beq_eq_false_iff_ne]; exact hne
  have hpos : (0 : Int) < ((n : Nat) : Int) := by omega
  have hg : g < w.heap.size := World.block_lt_of_cell? _ _ y0
  have H3 : Hid (∀ k (hk : k < l.length), w.cell? ⟨g, off + k, none⟩ = some (.int .u8 ((l[k]'hk : Nat) : Int))) := h3
  have HBd : Hid (BdB l) := hbd
  clear h2 hy h3 hn hbd
  go_enter Try.func27, Try.ntmps27
  go_wp2_with (fail)
  obtain ⟨W, hW⟩ : ∃ W, W = (w.alloc (.cells #[.int .u8 0, .int .u8 0] 23)).alloc (.cells #[.int .u8 0, .int .u8 0] 23) := ⟨_, rfl⟩
  obtain ⟨B, hB⟩ : ∃ B, B = w.heap.size + 1 := ⟨_, rfl⟩
  have hbW : Hid (Below w.heap.size w W) := by rw [hW]; show Below _ _ _; (repeat (first | assumption | exact Below.refl _ _ | refine Below.drew ?_ | refine bel_drewN ?_ _ | refine Below.setCell ?_ (by first | omega | (simp; done) | (simp; omega)) _ | refine Below.alloc ?_ (by first | omega | (simp; done) | (simp; omega)) _ | refine bel_of ?_ (by assumption)))
  have hW0 : W.cell? ⟨w.heap.size, 0, none⟩ = some (.int .u8 0) := by rw [hW]; simp [go_sem]
  have hW1 : W.cell? ⟨w.heap.size, 1, none⟩ = some (.int .u8 0) := by rw [hW]; simp [go_sem]
  have hF0 : W.frozen? ⟨w.heap.size, 0, none⟩ = false := by rw [hW]; simp [go_sem]
  have hF1 : W.frozen? ⟨w.heap.size, 1, none⟩ = false := by rw [hW]; simp [go_sem]
  have hM : Hid (MemH W W B 0 0) := by rw [hW, hB]; exact ⟨by simp [go_sem], by simp [go_sem], fun i => by simp [go_sem], Below.refl _ _⟩
  have hBw : w.heap.size < B := by omega
  have hgB : g < B := by omega
  rw [← hW, ← hB]
  clear hW hB
  go_loopw [5, 6, 7] (fun iv _ _ wr => ∃ i : Nat, i ≤ 8 ∧ iv = .int .i64 i ∧ Hid (MemH W wr B ((hi V i : Nat) : Int) ((hi H i : Nat) : Int))) (fun iv _ _ _ => 8 - (intOf iv).toNat)
  case atStart => exact ⟨0, Nat.zero_le _, rfl, by rw [hi_zero hV8, hi_zero hH8]; exact hM.out⟩
  case round =>
    obtain ⟨i, hi8, rfl, HM⟩ := hrel
    clear hM
    by_cases hlt : i < 8
    · have hlt' : (i : Int) < 8 := by omega
      go_wp2_with (fail)
      go_loopw [6, 7] (fun av kv wx => ∃ k : Nat, k ≤ n ∧ kv = .int .i64 k ∧ av = .bool (alk y i (l.take k)) ∧ Hid (MemH W wx B ((hi V i : Nat) : Int) ((hi H i : Nat) : Int))) (fun _ kv _ => n - (intOf kv).toNat)
      case atStart => exact ⟨0, Nat.zero_le _, rfl, rfl, HM.out⟩
      case round =>
        obtain ⟨k, hk, rfl, rfl, HX⟩ := hrel
        clear HM
        have yx : wr.cell? ⟨g, off, none⟩ = some (.int .u8 (y : Int)) := by rw [HX.out.bel.cell hgB]; exact cell_on1 hbW.out y0
        by_cases hkn : k < n
        · have hkl : k < l.length := by have := HLn.out; omega
          have hkn' : (k : Int) < (n : Int) := by omega
          have hk0 : (0 : Int) ≤ (k : Int) := by omega
          obtain ⟨p, hp⟩ : ∃ p, p = l[k] := ⟨_, rfl⟩
          have x0 : wr.cell? ⟨g, off + k, none⟩ = some (.int .u8 (p : Int)) := by rw [HX.out.bel.cell hgB, hp]; exact cell_on1 hbW.out (H3.out k hkl)
          have hp8 : p < 256 := by rw [hp]; exact HBd.out _ (List.getElem_mem _)
          have HN : Hid (alk y i (l.take (k + 1)) = (alk y i (l.take k) && decide (tb p i = tb y i))) := by show _ = _; rw [takeB hkl, alk_snoc, hp]
          generalize alk y i (l.take k) = al at HN
          clear hp
          cases al
          · go_wp2_with (fail)
            go_quiet (fail)
            go_wp2_with (fail)
            go_roundw
            case rel => exact ⟨k + 1, by omega, by go_num, by rw [HN.out]; rfl, by first | exact HX.out.drew | exact HX.out.on (bel_drewN (Below.refl _ _) _)⟩
            case measure => simp [intOf]; omega
          · by_cases e : tb p i = tb y i
            · have hd1 : (((tb p i : Nat) : Int) == ((tb y i : Nat) : Int)) = true := by rw [e]; simp
              have HE : Hid (tb p i = tb y i) := e
              clear e
              go_wp2_with (fail)
              go_quiet ((go_at_call 28; exact Calls.quiet_of_same (bitM _ i _ (by assumption) (by omega))))
              go_wp2_with (fail)
              go_roundw
              case rel => exact ⟨k + 1, by omega, by go_num, by rw [HN.out, HE.out]; simp, by first | exact HX.out.drew | exact HX.out.on (bel_drewN (Below.refl _ _) _)⟩
              case measure => simp [intOf]; omega
            · have hd1 : (((tb p i : Nat) : Int) == ((tb y i : Nat) : Int)) = false := by rw [beq_eq_false_iff_ne]; omega
              have HE : Hid (¬ tb p i = tb y i) := e
              clear e
              go_wp2_with (fail)
              go_quiet ((go_at_call 28; exact Calls.quiet_of_same (bitM _ i _ (by assumption) (by omega))))
              go_wp2_with (fail)
              go_roundw
              case rel => exact ⟨k + 1, by omega, by go_num, by rw [HN.out, decide_eq_false HE.out]; rfl, by first | exact HX.out.drew | exact HX.out.on (bel_drewN (Below.refl _ _) _)⟩
              case measure => simp [intOf]; omega
        · obtain rfl : k = n := by omega
          have htk : l.take k = l := by rw [HLn.out, List.take_length]
          rw [htk]
          have ht := HT.out i hlt
          have hv := HV.out i
          have HX0 := HX.out
          have o0 := HX0.o0
          have o1 := HX0.o1
          have g0 := HX0.fo 0
          have g1 := HX0.fo 1
          have lV := tb_lt V i
          have ly := tb_lt y i
          clear HT HV hbW HX0 hkn hk htk
          generalize alk y i l = al at ht
          cases al
          · have tH : tb H i = 0 := by rw [ht]; rfl
            have tV : tb V i = 0 := by omega
            have HH : Hid (((hi H (i + 1) : Nat) : Int) = ((hi H i : Nat) : Int)) := hi_nil hlt tH
            have HVV : Hid (((hi V (i + 1) : Nat) : Int) = ((hi V i : Nat) : Int)) := hi_nil hlt tV
            clear ht hv tH tV lV ly
            go_wp2_with (fail)
            go_roundw
            case rel => exact ⟨i + 1, by omega, by go_num, by show MemH _ _ _ _ _; rw [HH.out, HVV.out]; exact HX.out⟩
            case measure => simp [intOf]; omega
          · have tH : tb H i = 1 := by rw [ht]; rfl
            have HH : Hid (((hi H i : Nat) : Int) + 2 ^ (7 - i) = ((hi H (i + 1) : Nat) : Int)) := (hi_one hH8 hlt tH).1
            have LH : ((hi H i : Nat) : Int) + 2 ^ (7 - i) < 256 := (hi_one hH8 hlt tH).2
            have PH : 0 ≤ ((hi H i : Nat) : Int) + 2 ^ (7 - i) := Int.add_nonneg (Int.natCast_nonneg _) (Int.pow_nonneg (by decide))
            have HHw : Hid (IntKind.u8.wrap (((hi H i : Nat) : Int) + 2 ^ (7 - i)) = ((hi H (i + 1) : Nat) : Int)) := by show _ = _; rw [u8_wrapH PH LH, HH.out]
            obtain ey | ey : tb y i = 0 ∨ tb y i = 1 := by omega
            · have tV : tb V i = 0 := by omega
              have HVV : Hid (((hi V (i + 1) : Nat) : Int) = ((hi V i : Nat) : Int)) := hi_nil hlt tV
              have iy : ((tb y i : Nat) : Int) = 0 := by omega
              clear ht hv tH tV lV ly ey
              go_wp2_with (fail)
              go_region_with (go_at_call 33; refine (oneM i _ ?_).mono ?_; omega; rintro e w' ⟨rfl, hw⟩; obtain rfl := hw.symm; clear hw)
              all_goals
                go_wp2_with (go_at_call 28; refine (bitM _ i _ ?_ ?_).mono ?_; assumption; omega; rintro e w' ⟨rfl, hw⟩; obtain rfl := hw.symm; clear hw)
                go_roundw
                case rel => exact ⟨i + 1, by omega, by go_num, by show MemH _ _ _ _ _; rw [HVV.out]; first | (rw [HHw.out]; first | exact (HX.out.set1 _).drew | exact HX.out.set1 _) | (rw [← HH.out]; first | exact (HX.out.set1 _).drew | exact HX.out.set1 _)⟩
                case measure => simp [intOf]; omega
            · have tV : tb V i = 1 := hv.2 ⟨ey, tH⟩
              have HVV : Hid (((hi V i : Nat) : Int) + 2 ^ (7 - i) = ((hi V (i + 1) : Nat) : Int)) := (hi_one hV8 hlt tV).1
              have LV : ((hi V i : Nat) : Int) + 2 ^ (7 - i) < 256 := (hi_one hV8 hlt tV).2
              have PV : 0 ≤ ((hi V i : Nat) : Int) + 2 ^ (7 - i) := Int.add_nonneg (Int.natCast_nonneg _) (Int.pow_nonneg (by decide))
              have HVw : Hid (IntKind.u8.wrap (((hi V i : Nat) : Int) + 2 ^ (7 - i)) = ((hi V (i + 1) : Nat) : Int)) := by show _ = _; rw [u8_wrapH PV LV, HVV.out]
              have iy : ((tb y i : Nat) : Int) = 1 := by omega
              clear ht hv tH tV lV ly ey
              go_wp2_with (fail)
              go_region_with (go_at_call 33; refine (oneM i _ ?_).mono ?_; omega; rintro e w' ⟨rfl, hw⟩; obtain rfl := hw.symm; clear hw)
              all_goals
                go_wp2_with (go_at_call 28; refine (bitM _ i _ ?_ ?_).mono ?_; assumption; omega; rintro e w' ⟨rfl, hw⟩; obtain rfl := hw.symm; clear hw)
                go_region_with (go_at_call 33; refine (oneM i _ ?_).mono ?_; omega; rintro e w' ⟨rfl, hw⟩; obtain rfl := hw.symm; clear hw)
                all_goals
                  go_wp2_with (fail)
                  go_roundw
                  case rel => exact ⟨i + 1, by omega, by go_num, by show MemH _ _ _ _ _; first | (rw [HHw.out, HVw.out]; first | exact ((HX.out.set1 _).set0 _).drew.drew | exact ((HX.out.set1 _).drew.set0 _).drew | exact (HX.out.set1 _).set0 _) | (rw [← HH.out, ← HVV.out]; first | exact ((HX.out.set1 _).set0 _).drew.drew | exact ((HX.out.set1 _).drew.set0 _).drew | exact (HX.out.set1 _).set0 _)⟩
                  case measure => simp [intOf]; omega
    · obtain rfl : i = 8 := by omega
      have hmm := HM.out
      rw [hi_all, hi_all] at hmm
      have o0 := hmm.o0
      have o1 := hmm.o1
      have r0 : wr.cell? ⟨w.heap.size, 0, none⟩ = some (.int .u8 0) := by rw [hmm.bel.cell hBw]; exact hW0
      have r1 : wr.cell? ⟨w.heap.size, 1, none⟩ = some (.int .u8 0) := by rw [hmm.bel.cell hBw]; exact hW1
      have f0 : wr.frozen? ⟨w.heap.size, 0, none⟩ = false := by rw [hmm.bel.frozen hBw]; exact hF0
      have f1 : wr.frozen? ⟨w.heap.size, 1, none⟩ = false := by rw [hmm.bel.frozen hBw]; exact hF1
      have hbr : Hid (Below w.heap.size w wr) := hbW.out.trans (hmm.bel.mono (Nat.le_of_lt hBw))
      have n1 : ¬ B = w.heap.size := by omega
      have n2 : ¬ w.heap.size = B := by omega
      clear hmm HM hW0 hW1 hF0 hF1
      go_wp2_with (fail)
      exact bodyPost_ret (v := .tuple #[.agg #[.int .u8 (V : Nat), .int .u8 (H : Nat)], .int .i64 0]) (by simp [results, Try.results27, go_sem, *]) rfl ⟨rfl, by have := hbr.out; (repeat (first | assumption | exact Below.refl _ _ | refine Below.drew ?_ | refine bel_drewN ?_ _ | refine Below.setCell ?_ (by first | omega | (simp; done) | (simp; omega)) _ | refine Below.alloc ?_ (by first | omega | (simp; done) | (simp; omega)) _ | refine bel_of ?_ (by assumption)))⟩
end Go.Proofs.Ytphfjhkbbodfaaa
