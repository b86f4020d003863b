/-
  The document's Grid.
-/
import Derived.Test.YtcjpjofoddpfhaaGreatNsSa
namespace Go.Proofs.YtcjpjofoddpfhaaGreat
open Go.RowKit
set_option linter.unusedVariables false
set_option linter.unusedSimpArgs false

theorem set_okay {l : List Ru} (hb : ∀ R ∈ l, BdR R) (h0 : setE l 64 = 0) : l.length ≤ 64 ∧ ∀ R ∈ l, BdR R ∧ okR R = true := by
  have o := setE_ok h0
  refine ⟨?_, fun R hR => ⟨hb R hR, ?_⟩⟩
  · rcases o.few with e | e
    · rw [e]; simp
    · omega
  · obtain ⟨k, hk, rfl⟩ := List.mem_iff_getElem.1 hR
    exact o.may k hk
theorem cntR_step {q : Ru → Bool} {l : List Ru} {k : Nat} (hk : k < l.length) : (l.take (k + 1)).countP q = (l.take k).countP q + if q l[k] then 1 else 0 := by
  rw [take_at hk, List.countP_append, List.countP_singleton]
theorem first_sr {l : List Ru} {i : Nat} (hi : i < l.length) (hw : witX (sr l[i]) (sr l[i]) = true) : decide (sr l[i] ∉ (l.take i).map sr) = true ↔ ∀ k (hk : k < l.length), k < i → ¬ (witX (sr l[i]) (sr l[k]) = true ∧ sr l[k] = sr l[i]) := by
  rw [decide_eq_true_eq]
  constructor
  · rintro h k hk hki ⟨_, e⟩
    refine h (List.mem_map.2 ⟨l[k], ?_, e⟩)
    exact List.mem_iff_getElem.2 ⟨k, by rw [List.length_take]; omega, by rw [List.getElem_take]⟩
  · intro h hm
    obtain ⟨R, hR, e⟩ := List.mem_map.1 hm
    obtain ⟨k, hk, rfl⟩ := List.mem_iff_getElem.1 hR
    rw [List.length_take] at hk
    rw [List.getElem_take] at e
    exact h k (by omega) (by omega) ⟨by rw [e]; exact hw, e⟩
set_option maxRecDepth 20000 in
set_option maxHeartbeats 4000000 in
theorem rGridC (l : List Ru) (v : Value) (w : World) (hs : SrcU w v l) (hb : ∀ R ∈ l, BdR R) :
    Calls Tryz.prog 20 #[v] w fun e w' => e = .returned (.tuple #[.int .i64 (grdL l : Nat), .int .i64 (setE l 64)]) ∧ Below w.heap.size w w' := by
  have hC := rlistC l v w hs hb
  have HS : Hid (SrcU w v l) := hs
  by_cases h0 : setE l 64 = 0
  · obtain ⟨o1, o2⟩ := set_okay hb h0
    have HG : Hid (grdL l = sumF (fun p => (l.map sr).countP (witX p)) (uq ((l.take l.length).map sr))) := by
      show grdL l = _
      unfold grdL grdN hel; rw [if_pos h0, map_sr, List.take_length]
    have HO : Hid (∀ R ∈ l, BdR R ∧ okR R = true) := o2
    have HO2 : Hid (∀ R ∈ l, okR R = true) := fun R hR => (o2 R hR).2
    obtain ⟨ad, cap, rfl, _, _⟩ := hs
    obtain ⟨n, hn⟩ : ∃ n, n = l.length := ⟨_, rfl⟩
    have hn64 : n ≤ 64 := by omega
    rw [← hn] at HS HG hC ⊢
    have Hn : Hid (n = l.length) := hn
    generalize grdL l = G at *
    rw [h0] at hC ⊢
    clear h0 o1 o2 hb hn
    go_enter Tryz.func20, Tryz.ntmps20
    go_wp2_with (fail)
    refine hC.mono ?_
    rintro e w1 ⟨rfl, hb1⟩
    have HB1 : Hid (Below w.heap.size w w1) := hb1
    clear hC hb1
    obtain ⟨f, hf⟩ : ∃ f : Nat × Nat → Nat, f = fun p => (l.map sr).countP (witX p) := ⟨_, rfl⟩
    rw [← hf] at HG
    have Hf : Hid (f = fun p => (l.map sr).countP (witX p)) := hf
    have Hfb : Hid (∀ x, f x ≤ 64) := fun x => by rw [hf]; exact Nat.le_trans List.countP_le_length (by rw [List.length_map, ← Hn.out]; exact hn64)
    clear hf
    go_wp2_with (fail)
    go_loopw [5, 6] (fun vs vi wr => ∃ i : Nat, i ≤ n ∧ vs = .int .i64 ((sumF f (uq ((l.take i).map sr)) : Nat) : Int) ∧ vi = .int .i64 (i : Int) ∧ Hid (Below w.heap.size w wr)) (fun _ vi _ => n - (intOf vi).toNat)
    case atStart => exact ⟨0, Nat.zero_le _, rfl, rfl, HB1.out⟩
    case round =>
      obtain ⟨i, hi, rfl, rfl, HB⟩ := hrel
      clear HB1
      by_cases hlt : i < n
      · have hlt' : i < l.length := by rw [← Hn.out]; exact hlt
        have hlti : (i : Int) < (n : Int) := by omega
        have hR := HO.out _ (List.getElem_mem hlt')
        have hx := okR_sr hR.2 hR.1
        have hB := first_sr hlt' (witX_self hx.1)
        have hst : sumF f (uq ((l.take (i + 1)).map sr)) = sumF f (uq ((l.take i).map sr)) + if sr l[i] ∈ (l.take i).map sr then 0 else f (sr l[i]) := by
          rw [take_at hlt', List.map_append]; exact uq_app_sum f _ _
        have hbo : sumF f (uq ((l.take i).map sr)) ≤ 4096 := by
          have h1 := sumF_bound (f := f) (l := uq ((l.take i).map sr)) (k := 64) (fun x _ => Hfb.out x)
          have h2 := uq_len ((l.take i).map sr)
          rw [List.length_map, List.length_take] at h2
          have : (uq ((l.take i).map sr)).length * 64 ≤ 64 * 64 := Nat.mul_le_mul_right _ (by omega)
          omega
        obtain ⟨g, off, ea, c1, c2, _, _⟩ := rngP HS.out HO2.out wr HB.out i hlt'
        subst ea
        have hF := fun W (hb : Below w.heap.size w W) => rfirstS l _ i (sr l[i]) W (HS.out.keep hb) (by rw [← Hn.out]; exact hn64) HO.out hlt' hx.1.1 _ hB
        have hs1 : (sr l[i]).1 < 4294967296 := hx.1.1
        clear hB hx hR
        obtain ⟨s, hss⟩ : ∃ s, s = sr l[i] := ⟨_, rfl⟩
        rw [← hss] at c1 c2 hF hst hs1
        clear hss
        have Hst : Hid _ := hst
        generalize sumF f (uq ((l.take i).map sr)) = S0 at *
        clear hst
        obtain ⟨W1, hW1⟩ : ∃ W1, W1 = wr.alloc (.cells #[.int .u32 (s.1 : Int), .int .i64 (s.2 : Int)] 50) := ⟨_, rfl⟩
        have z0 : W1.cell? ⟨wr.heap.size, 0, none⟩ = some (.int .u32 (s.1 : Int)) := by rw [hW1]; exact blk_cell (blk_new wr _) rfl
        have z1 : W1.cell? ⟨wr.heap.size, 1, none⟩ = some (.int .i64 (s.2 : Int)) := by rw [hW1]; exact blk_cell (blk_new wr _) rfl
        have HBW : Hid (Below w.heap.size w W1) := by show Below _ _ _; rw [hW1]; exact HB.out.alloc HB.out.size _
        have hF1 := hF W1 HBW.out
        have Hz0 : Hid (W1.cell? ⟨wr.heap.size, 0, none⟩ = some (.int .u32 (s.1 : Int))) := z0
        have Hz1 : Hid (W1.cell? ⟨wr.heap.size, 1, none⟩ = some (.int .i64 (s.2 : Int))) := z1
        clear hF z0 z1
        subst hW1
        go_wp2_with (go_at_call 41; fail)
        refine hF1.mono ?_
        rintro e w3 ⟨rfl, hb3⟩
        have HB3 : Hid (Below w.heap.size w w3) := bel_of HBW.out hb3 HBW.out.size
        have Hy0 : Hid (w3.cell? ⟨wr.heap.size, 0, none⟩ = some (.int .u32 (s.1 : Int))) := cell_on1 hb3 Hz0.out
        have Hy1 : Hid (w3.cell? ⟨wr.heap.size, 1, none⟩ = some (.int .i64 (s.2 : Int))) := cell_on1 hb3 Hz1.out
        clear hb3 hF1 Hz0 Hz1 HBW c1 c2
        by_cases hm : s ∈ (l.take i).map sr
        · have hm' : decide (s ∉ (l.take i).map sr) = false := decide_eq_false (fun h => h hm)
          have Hnx : Hid (sumF f (uq ((l.take (i + 1)).map sr)) = S0) := by show _ = _; rw [Hst.out, if_pos hm]; rfl
          rw [hm']
          clear hm hm' Hst
          go_wp2_with (fail)
          go_roundw
          case rel => exact ⟨i + 1, by omega, by rw [Hnx.out], by go_num, HB3.out⟩
          case measure => simp [intOf]; omega
        · have hm' : decide (s ∉ (l.take i).map sr) = true := decide_eq_true hm
          have Hnx : Hid (sumF f (uq ((l.take (i + 1)).map sr)) = S0 + (l.take l.length).countP (fun R => witX s (sr R))) := by
            show _ = _
            rw [Hst.out, if_neg hm, Hf.out, List.take_length]
            show S0 + (l.map sr).countP (witX s) = _
            rw [List.countP_map]; rfl
          rw [hm']
          clear hm hm' Hst HB
          generalize wr.heap.size = Bs at *
          go_wp2_with (fail)
          go_loopw [5, 8] (fun vs vk wr => ∃ k : Nat, k ≤ n ∧ vs = .int .i64 ((S0 + (l.take k).countP (fun R => witX s (sr R)) : Nat) : Int) ∧ vk = .int .i64 (k : Int) ∧ Hid (Below w3.heap.size w3 wr)) (fun _ vk _ => n - (intOf vk).toNat)
          case atStart => exact ⟨0, Nat.zero_le _, by simp, rfl, Below.refl _ _⟩
          case round =>
            obtain ⟨k, hk, rfl, rfl, HBk⟩ := hrel
            have HBw : Hid (Below w.heap.size w wr) := bel_of HB3.out HBk.out HB3.out.size
            by_cases hltk : k < n
            · have hltk' : k < l.length := by rw [← Hn.out]; exact hltk
              have hltki : (k : Int) < (n : Int) := by omega
              obtain ⟨g', off', e', c1, c2, _, _⟩ := rngP HS.out HO2.out wr HBw.out k hltk'
              injection e' with e'
              injection e' with e1 e2
              subst e1 e2
              have hct := cntR_step (q := fun R => witX s (sr R)) hltk'
              have hcb : (l.take k).countP (fun R => witX s (sr R)) ≤ 64 := Nat.le_trans List.countP_le_length (by rw [List.length_take]; omega)
              have hp1 : (sr l[k]).1 < 4294967296 := (HO.out _ (List.getElem_mem hltk')).1.1
              obtain ⟨p, hp⟩ : ∃ p, p = sr l[k] := ⟨_, rfl⟩
              have hct2 : (l.take (k + 1)).countP (fun R => witX s (sr R)) = (l.take k).countP (fun R => witX s (sr R)) + if witX s p then 1 else 0 := by rw [hct, hp]
              rw [← hp] at c1 c2 hp1
              have Hct : Hid _ := hct2
              clear hct hct2 hp
              have hW := fun W => rwitX s p W hs1 hp1
              generalize (l.take k).countP (fun R => witX s (sr R)) = C at *
              have z0 := cell_on1 HBk.out Hy0.out
              have z1 := cell_on1 HBk.out Hy1.out
              have kc1 : ∀ y : Kin wr, y.val.cell? ⟨g, off + k * 12 + 1, none⟩ = _ := fun y => cell_on1 y.is c1
              have kc2 : ∀ y : Kin wr, y.val.cell? ⟨g, off + k * 12 + 2, none⟩ = _ := fun y => cell_on1 y.is c2
              have kz0 : ∀ y : Kin wr, y.val.cell? ⟨Bs, 0, none⟩ = _ := fun y => cell_on1 y.is z0
              have kz1 : ∀ y : Kin wr, y.val.cell? ⟨Bs, 1, none⟩ = _ := fun y => cell_on1 y.is z1
              have kne : Nonempty (Kin wr) := ⟨⟨_, Below.refl _ _⟩⟩
              clear c1 c2 z0 z1
              go_upto_region 13 with (fail)
              refine wp_region_kin wr (Below.refl _ _) (by kernel_rfl) (by kernel_rfl) ?_
              repeat (go_big_quiet_step (first | (go_at_call 42; exact kin_call (hW _))))
              refine wpQuiet_nil ?_
              rintro wq ⟨⟨xq, hxq⟩, hyq⟩
              have hq : Below wr.heap.size wr wq := by rw [hyq]; exact hxq
              have HB2 : Hid (Below w3.heap.size w3 wq) := bel_of HBk.out hq HBk.out.size
              clear hyq hxq xq kne kc1 kc2 kz0 kz1 hq hW
              cases hwi : witX s p with
              | false =>
                have Hn2 : Hid ((l.take (k + 1)).countP (fun R => witX s (sr R)) = C) := by have := Hct.out; rw [hwi] at this; show _ = _; simpa using this
                clear hwi Hct
                go_wp2_with (fail)
                go_roundw
                case rel => exact ⟨k + 1, by omega, by rw [Hn2.out], by go_num, HB2.out⟩
                case measure => simp [intOf]; omega
              | true =>
                have Hn2 : Hid ((l.take (k + 1)).countP (fun R => witX s (sr R)) = C + 1) := by have := Hct.out; rw [hwi] at this; show _ = _; simpa using this
                clear hwi Hct
                go_wp2_with (fail)
                go_roundw
                case rel => exact ⟨k + 1, by omega, by rw [Hn2.out]; go_num, by go_num, HB2.out⟩
                case measure => simp [intOf]; omega
            · obtain rfl : k = n := by omega
              have hnk : ¬ (k : Int) < (k : Int) := by omega
              have Hnx2 : Hid (S0 + (l.take k).countP (fun R => witX s (sr R)) = sumF f (uq ((l.take (i + 1)).map sr))) := by show _ = _; rw [Hnx.out, ← Hn.out]
              rw [Hnx2.out]
              clear Hnx Hnx2
              go_wp2_with (fail)
              go_roundw
              case rel => exact ⟨i + 1, by omega, rfl, by go_num, HBw.out⟩
              case measure => simp [intOf]; omega
      · obtain rfl : i = n := by omega
        have hni : ¬ (i : Int) < (i : Int) := by omega
        rw [← HG.out]
        go_wp2
        go_ret2
        exact ⟨rfl, HB.out⟩
  · have hG : grdL l = 0 := if_neg h0
    rw [hG]
    have h0' : (setE l 64 != 0) = true := by simpa using h0
    clear hG
    generalize setE l 64 = E at *
    go_enter Tryz.func20, Tryz.ntmps20
    go_wp2_with (fail)
    refine hC.mono ?_
    rintro e w1 ⟨rfl, hb1⟩
    have HB1 : Hid (Below w.heap.size w w1) := hb1
    clear hC hb1
    go_wp2
    go_ret2
    exact ⟨rfl, HB1.out⟩
end Go.Proofs.YtcjpjofoddpfhaaGreat
