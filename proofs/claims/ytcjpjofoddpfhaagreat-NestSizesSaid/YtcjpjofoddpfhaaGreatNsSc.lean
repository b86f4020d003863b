/-
  The document's Prune.
-/
import Derived.Test.YtcjpjofoddpfhaaGreatNsSb
namespace Go.Proofs.YtcjpjofoddpfhaaGreat
open Go.RowKit
set_option linter.unusedVariables false
set_option linter.unusedSimpArgs false

theorem mem_tgs {L : List Ru} {s x : Nat × Nat} : x ∈ tgs witX (L.map pr) s ↔ ∃ R ∈ L, witX s (sr R) = true ∧ ds R = x := by
  unfold tgs
  rw [List.mem_map]
  constructor
  · rintro ⟨r, hr, rfl⟩
    obtain ⟨h1, h2⟩ := List.mem_filter.1 hr
    obtain ⟨R, hR, rfl⟩ := List.mem_map.1 h1
    exact ⟨R, hR, h2, rfl⟩
  · rintro ⟨R, hR, h1, rfl⟩
    exact ⟨pr R, List.mem_filter.2 ⟨List.mem_map.2 ⟨R, hR, rfl⟩, h1⟩, rfl⟩
theorem first_ds {l : List Ru} {i : Nat} (hi : i < l.length) (s : Nat × Nat) : decide (ds l[i] ∉ tgs witX ((l.take i).map pr) s) = true ↔ ∀ k (hk : k < l.length), k < i → ¬ (witX s (sr l[k]) = true ∧ ds l[k] = ds l[i]) := by
  rw [decide_eq_true_eq, mem_tgs]
  constructor
  · rintro h k hk hki ⟨h1, h2⟩
    exact h ⟨l[k], List.mem_iff_getElem.2 ⟨k, by rw [List.length_take]; omega, by rw [List.getElem_take]⟩, h1, h2⟩
  · rintro h ⟨R, hR, h1, h2⟩
    obtain ⟨k, hk, rfl⟩ := List.mem_iff_getElem.1 hR
    rw [List.length_take] at hk
    rw [List.getElem_take] at h1 h2
    exact h k (by omega) (by omega) ⟨h1, h2⟩
theorem tgs_cnt (l : List Ru) (s d : Nat × Nat) : (tgs witX (l.map pr) s).countP (witX d) = l.countP (fun R => witX s (sr R) && witX d (ds R)) := by
  induction l with
  | nil => rfl
  | cons R l ih =>
    unfold tgs at ih ⊢
    simp only [List.map_cons, List.filter_cons, List.countP_cons]
    have e1 : (pr R).1 = sr R := rfl
    have e2 : (pr R).2 = ds R := rfl
    rw [e1]
    cases h1 : witX s (sr R)
    · simp [ih]
    · simp only [if_true, List.map_cons, List.countP_cons, e2, Bool.true_and, ih]
theorem tgs_short (l : List Ru) (s : Nat × Nat) : (tgs witX (l.map pr) s).length ≤ l.length := by
  rw [tgs_len]; exact Nat.le_trans List.countP_le_length (by simp)
theorem tgs_step {l : List Ru} {k : Nat} (hk : k < l.length) (s : Nat × Nat) : tgs witX ((l.take (k + 1)).map pr) s = if witX s (sr l[k]) then tgs witX ((l.take k).map pr) s ++ [ds l[k]] else tgs witX ((l.take k).map pr) s := by
  rw [take_at hk, List.map_append]; exact tgs_app _ _ _
set_option maxRecDepth 20000 in
set_option maxHeartbeats 600000 in
theorem rPruneC (l : List Ru) (v : Value) (w : World) (hs : SrcU w v l) (hb : ∀ R ∈ l, BdR R) :
    Calls Tryz.prog 18 #[v] w fun e w' => e = .returned (.tuple #[.int .i64 (prnL l : Nat), .int .i64 (setE l 64)]) ∧ Below w.heap.size w w' := by
  have hC := rlistC l v w hs hb
  have HS : Hid (SrcU w v l) := hs
  by_cases h0 : setE l 64 = 0
  · obtain ⟨o1, o2⟩ := set_okay hb h0
    have HG : Hid (prnL l = sumF (fun s => hel witX (tgs witX (l.map pr) s)) (uq ((l.take l.length).map sr))) := by
      show prnL l = _
      unfold prnL prnN; rw [if_pos h0, map_sr, List.take_length]
    have HO : Hid (∀ R ∈ l, BdR R ∧ okR R = true) := o2
    have HO2 : Hid (∀ R ∈ l, okR R = true) := fun R hR => (o2 R hR).2
    obtain ⟨ad, cap, rfl, _, _⟩ := hs
    obtain ⟨n, hn⟩ : ∃ n, n = l.length := ⟨_, rfl⟩
    have hn64 : n ≤ 64 := by omega
    rw [← hn] at HS HG hC ⊢
    have Hn : Hid (n = l.length) := hn
    generalize prnL l = G at *
    rw [h0] at hC ⊢
    clear h0 o1 o2 hb hn
    go_enter Tryz.func18, Tryz.ntmps18
    go_wp2_with (fail)
    refine hC.mono ?_
    rintro e w1 ⟨rfl, hb1⟩
    have HB1 : Hid (Below w.heap.size w w1) := hb1
    clear hC hb1
    obtain ⟨f, hf⟩ : ∃ f : Nat × Nat → Nat, f = fun s => hel witX (tgs witX (l.map pr) s) := ⟨_, rfl⟩
    rw [← hf] at HG
    have Hf : Hid (f = fun s => hel witX (tgs witX (l.map pr) s)) := hf
    have Hfb : Hid (∀ x, f x ≤ 4096) := fun x => by
      rw [hf]
      have h1 := tgs_short l x
      have h2 := hel_le (W := witX) (tgs witX (l.map pr) x)
      have h3 : (tgs witX (l.map pr) x).length ≤ 64 := by rw [← Hn.out] at h1; omega
      exact Nat.le_trans h2 (Nat.mul_le_mul h3 h3)
    clear hf
    go_wp2_with (fail)
    go_loopw [5, 6] (fun vs vi wr => ∃ i : Nat, i ≤ n ∧ vs = .int .i64 ((sumF f (uq ((l.take i).map sr)) : Nat) : Int) ∧ vi = .int .i64 (i : Int) ∧ Hid (Below w.heap.size w wr)) (fun _ vi _ => n - (intOf vi).toNat)
    case atStart => exact ⟨0, Nat.zero_le _, rfl, rfl, HB1.out⟩
    case round =>
      obtain ⟨i, hi, rfl, rfl, HB⟩ := hrel
      clear HB1
      by_cases hlt : i < n
      · have hlt' : i < l.length := by rw [← Hn.out]; exact hlt
        have hlti : (i : Int) < (n : Int) := by omega
        have hR := HO.out _ (List.getElem_mem hlt')
        have hx := okR_sr hR.2 hR.1
        have hB := first_sr hlt' (witX_self hx.1)
        have hst : sumF f (uq ((l.take (i + 1)).map sr)) = sumF f (uq ((l.take i).map sr)) + if sr l[i] ∈ (l.take i).map sr then 0 else f (sr l[i]) := by
          rw [take_at hlt', List.map_append]; exact uq_app_sum f _ _
        have hbo : sumF f (uq ((l.take i).map sr)) ≤ 262144 := by
          have h1 := sumF_bound (f := f) (l := uq ((l.take i).map sr)) (k := 4096) (fun x _ => Hfb.out x)
          have h2 := uq_len ((l.take i).map sr)
          rw [List.length_map, List.length_take] at h2
          have : (uq ((l.take i).map sr)).length * 4096 ≤ 64 * 4096 := Nat.mul_le_mul_right _ (by omega)
          omega
        obtain ⟨g, off, ea, c1, c2, _, _⟩ := rngP HS.out HO2.out wr HB.out i hlt'
        subst ea
        have hF := fun W (hb : Below w.heap.size w W) => rfirstS l _ i (sr l[i]) W (HS.out.keep hb) (by rw [← Hn.out]; exact hn64) HO.out hlt' hx.1.1 _ hB
        have hs1 : (sr l[i]).1 < 4294967296 := hx.1.1
        clear hB hx hR
        obtain ⟨s, hss⟩ : ∃ s, s = sr l[i] := ⟨_, rfl⟩
        rw [← hss] at c1 c2 hF hst hs1
        clear hss
        have Hst : Hid _ := hst
        generalize sumF f (uq ((l.take i).map sr)) = S0 at *
        clear hst
        obtain ⟨W1, hW1⟩ : ∃ W1, W1 = wr.alloc (.cells #[.int .u32 (s.1 : Int), .int .i64 (s.2 : Int)] 50) := ⟨_, rfl⟩
        have z0 : W1.cell? ⟨wr.heap.size, 0, none⟩ = some (.int .u32 (s.1 : Int)) := by rw [hW1]; exact blk_cell (blk_new wr _) rfl
        have z1 : W1.cell? ⟨wr.heap.size, 1, none⟩ = some (.int .i64 (s.2 : Int)) := by rw [hW1]; exact blk_cell (blk_new wr _) rfl
        have HBW : Hid (Below w.heap.size w W1) := by show Below _ _ _; rw [hW1]; exact HB.out.alloc HB.out.size _
        have hF1 := hF W1 HBW.out
        have Hz0 : Hid (W1.cell? ⟨wr.heap.size, 0, none⟩ = some (.int .u32 (s.1 : Int))) := z0
        have Hz1 : Hid (W1.cell? ⟨wr.heap.size, 1, none⟩ = some (.int .i64 (s.2 : Int))) := z1
        clear hF z0 z1
        subst hW1
        go_wp2_with (go_at_call 41; fail)
        refine hF1.mono ?_
        rintro e w3 ⟨rfl, hb3⟩
        have HB3 : Hid (Below w.heap.size w w3) := bel_of HBW.out hb3 HBW.out.size
        have Hy0 : Hid (w3.cell? ⟨wr.heap.size, 0, none⟩ = some (.int .u32 (s.1 : Int))) := cell_on1 hb3 Hz0.out
        have Hy1 : Hid (w3.cell? ⟨wr.heap.size, 1, none⟩ = some (.int .i64 (s.2 : Int))) := cell_on1 hb3 Hz1.out
        clear hb3 hF1 Hz0 Hz1 HBW c1 c2
        by_cases hm : s ∈ (l.take i).map sr
        · have hm' : decide (s ∉ (l.take i).map sr) = false := decide_eq_false (fun h => h hm)
          have Hnx : Hid (sumF f (uq ((l.take (i + 1)).map sr)) = S0) := by show _ = _; rw [Hst.out, if_pos hm]; rfl
          rw [hm']
          clear hm hm' Hst
          go_wp2_with (fail)
          go_roundw
          case rel => exact ⟨i + 1, by omega, by rw [Hnx.out], by go_num, HB3.out⟩
          case measure => simp [intOf]; omega
        · have hm' : decide (s ∉ (l.take i).map sr) = true := decide_eq_true hm
          obtain ⟨h, hh⟩ : ∃ h : Nat × Nat → Nat, h = fun d => (tgs witX (l.map pr) s).countP (witX d) := ⟨_, rfl⟩
          have Hnx : Hid (sumF f (uq ((l.take (i + 1)).map sr)) = S0 + sumF h (uq (tgs witX ((l.take l.length).map pr) s))) := by
            show _ = _
            rw [Hst.out, if_neg hm, Hf.out, List.take_length, hh]; rfl
          have Hh : Hid (∀ d, h d = (l.take l.length).countP (fun R => witX s (sr R) && witX d (ds R))) := fun d => by rw [hh, List.take_length]; exact tgs_cnt l s d
          have Hhb : Hid (∀ d, h d ≤ 64) := fun d => by
            rw [hh]
            refine Nat.le_trans List.countP_le_length ?_
            have := tgs_short l s
            rw [← Hn.out] at this; omega
          rw [hm']
          clear hm hm' Hst HB hh
          generalize wr.heap.size = Bs at *
          go_wp2_with (fail)
          go_loopw [5, 8] (fun vs vk wr => ∃ k : Nat, k ≤ n ∧ vs = .int .i64 ((S0 + sumF h (uq (tgs witX ((l.take k).map pr) s)) : Nat) : Int) ∧ vk = .int .i64 (k : Int) ∧ Hid (Below w3.heap.size w3 wr)) (fun _ vk _ => n - (intOf vk).toNat)
          case atStart => exact ⟨0, Nat.zero_le _, (by rfl), rfl, Below.refl _ _⟩
          case round =>
            obtain ⟨k, hk, rfl, rfl, HBk⟩ := hrel
            have HBw : Hid (Below w.heap.size w wr) := bel_of HB3.out HBk.out HB3.out.size
            by_cases hltk : k < n
            · have hltk' : k < l.length := by rw [← Hn.out]; exact hltk
              have hltki : (k : Int) < (n : Int) := by omega
              have hRk := HO.out _ (List.getElem_mem hltk')
              have hxk := okR_sr hRk.2 hRk.1
              obtain ⟨W2, hW2⟩ : ∃ W2, W2 = wr.alloc (.cells #[.int .u32 ((ds l[k]).1 : Int), .int .i64 ((ds l[k]).2 : Int)] 50) := ⟨_, rfl⟩
              have hbW2 : Below wr.heap.size wr W2 := by rw [hW2]; exact (Below.refl _ _).alloc (Nat.le_refl _) _
              have HBW2 : Hid (Below w.heap.size w W2) := bel_of HBw.out hbW2 HBw.out.size
              have HBk2 : Hid (Below w3.heap.size w3 W2) := bel_of HBk.out hbW2 HBk.out.size
              obtain ⟨g', off', e', x1, x2, x3, x4⟩ := rngP HS.out HO2.out wr HBw.out k hltk'
              injection e' with e'
              injection e' with e1 e2
              subst e1 e2
              have hst2 := tgs_step hltk' s
              have hsb : sumF h (uq (tgs witX ((l.take k).map pr) s)) ≤ 4096 := by
                have h1 := sumF_bound (f := h) (l := uq (tgs witX ((l.take k).map pr) s)) (k := 64) (fun x _ => Hhb.out x)
                have h2 := uq_len (tgs witX ((l.take k).map pr) s)
                have h3 := tgs_short (l.take k) s
                rw [List.length_take] at h3
                have : (uq (tgs witX ((l.take k).map pr) s)).length * 64 ≤ 64 * 64 := Nat.mul_le_mul_right _ (by omega)
                omega
              have hF := fun (y : Kin W2) => rfirstD l _ k s y.val (HS.out.keep (bel_of HBW2.out y.is HBW2.out.size)) (by rw [← Hn.out]; exact hn64) HO.out hltk' hs1 _ (first_ds hltk' s)
              have hp1 : (sr l[k]).1 < 4294967296 := hxk.1.1
              have hd1 : (ds l[k]).1 < 4294967296 := hxk.2.2.1.1
              obtain ⟨p, hp⟩ : ∃ p, p = sr l[k] := ⟨_, rfl⟩
              obtain ⟨d, hd⟩ : ∃ d, d = ds l[k] := ⟨_, rfl⟩
              rw [← hp] at x1 x2 hp1 hst2
              rw [← hd] at x3 x4 hd1 hst2 hF hW2
              have y0 : W2.cell? ⟨wr.heap.size, 0, none⟩ = some (.int .u32 (d.1 : Int)) := by rw [hW2]; exact blk_cell (blk_new wr _) rfl
              have y1 : W2.cell? ⟨wr.heap.size, 1, none⟩ = some (.int .i64 (d.2 : Int)) := by rw [hW2]; exact blk_cell (blk_new wr _) rfl
              have Hy2 : Hid (W2.cell? ⟨wr.heap.size, 0, none⟩ = some (.int .u32 (d.1 : Int))) := y0
              have Hy3 : Hid (W2.cell? ⟨wr.heap.size, 1, none⟩ = some (.int .i64 (d.2 : Int))) := y1
              have c1 := cell_on1 hbW2 x1
              have c2 := cell_on1 hbW2 x2
              have Hst2 : Hid _ := hst2
              clear hst2 hp hd y0 y1 hxk hRk
              have hW := fun W => rwitX s p W hs1 hp1
              generalize hTg : tgs witX ((l.take k).map pr) s = Tg at *
              clear hTg
              have z0 := cell_on1 HBk2.out Hy0.out
              have z1 := cell_on1 HBk2.out Hy1.out
              have kc1 : ∀ y : Kin W2, y.val.cell? ⟨g, off + k * 12 + 1, none⟩ = _ := fun y => cell_on1 y.is c1
              have kc2 : ∀ y : Kin W2, y.val.cell? ⟨g, off + k * 12 + 2, none⟩ = _ := fun y => cell_on1 y.is c2
              have kz0 : ∀ y : Kin W2, y.val.cell? ⟨Bs, 0, none⟩ = _ := fun y => cell_on1 y.is z0
              have kz1 : ∀ y : Kin W2, y.val.cell? ⟨Bs, 1, none⟩ = _ := fun y => cell_on1 y.is z1
              have kne : Nonempty (Kin W2) := ⟨⟨_, Below.refl _ _⟩⟩
              have HSm : Hid (Below w3.heap.size w3 W2) := HBk2.out
              clear c1 c2 z0 z1 x1 x2 hbW2 HBk HBw HBk2
              cases hwi : witX s p with
              | false =>
                rw [hwi] at hW
                have Hn2 : Hid (tgs witX ((l.take (k + 1)).map pr) s = Tg) := by have := Hst2.out; rw [hwi] at this; exact this
                clear hwi Hst2 hF
                subst hW2
                go_upto_region 14 with (fail)
                refine wp_region_kin _ (Below.refl _ _) (by kernel_rfl) (by kernel_rfl) ?_
                repeat (go_big_quiet_step (first | (go_at_call 42; exact kin_call (hW _))))
                refine wpQuiet_nil ?_
                rintro wq ⟨⟨xq, hxq⟩, hyq⟩
                have HB2 : Hid (Below w3.heap.size w3 wq) := by show Below _ _ _; rw [hyq]; exact bel_of HSm.out hxq HSm.out.size
                clear hyq hxq xq kne kc1 kc2 kz0 kz1 hW
                go_wp2_with (fail)
                go_roundw
                case rel => exact ⟨k + 1, by omega, by rw [Hn2.out], by go_num, HB2.out⟩
                case measure => simp [intOf]; omega
              | true =>
                rw [hwi] at hW
                have Hn2 : Hid (tgs witX ((l.take (k + 1)).map pr) s = Tg ++ [d]) := by have := Hst2.out; rw [hwi] at this; exact this
                have Hs2 : Hid (sumF h (uq (Tg ++ [d])) = sumF h (uq Tg) + if d ∈ Tg then 0 else h d) := uq_app_sum h Tg d
                clear hwi Hst2
                by_cases hdm : d ∈ Tg
                · have hdm' : decide (d ∉ Tg) = false := decide_eq_false (fun h => h hdm)
                  rw [hdm'] at hF
                  have Hn3 : Hid (sumF h (uq (tgs witX ((l.take (k + 1)).map pr) s)) = sumF h (uq Tg)) := by show _ = _; rw [Hn2.out, Hs2.out, if_pos hdm]; rfl
                  clear hdm hdm' Hs2 Hn2
                  subst hW2
                  go_upto_region 14 with (fail)
                  refine wp_region_kin _ (Below.refl _ _) (by kernel_rfl) (by kernel_rfl) ?_
                  repeat (go_big_quiet_step (first | (go_at_call 42; exact kin_call (hW _)) | (go_at_call 41; exact kin_call (hF _))))
                  refine wpQuiet_nil ?_
                  rintro wq ⟨⟨xq, hxq⟩, hyq⟩
                  have HB2 : Hid (Below w3.heap.size w3 wq) := by show Below _ _ _; rw [hyq]; exact bel_of HSm.out hxq HSm.out.size
                  clear hyq hxq xq kne kc1 kc2 kz0 kz1 hW hF
                  go_wp2_with (fail)
                  go_roundw
                  case rel => exact ⟨k + 1, by omega, by rw [Hn3.out], by go_num, HB2.out⟩
                  case measure => simp [intOf]; omega
                · have hdm' : decide (d ∉ Tg) = true := decide_eq_true hdm
                  rw [hdm'] at hF
                  have Hn3 : Hid (sumF h (uq (tgs witX ((l.take (k + 1)).map pr) s)) = sumF h (uq Tg) + (l.take l.length).countP (fun R => witX s (sr R) && witX d (ds R))) := by show _ = _; rw [Hn2.out, Hs2.out, if_neg hdm, Hh.out]
                  clear hdm hdm' Hs2 Hn2
                  generalize sumF h (uq Tg) = S1 at *
                  subst hW2
                  go_upto_region 14 with (fail)
                  refine wp_region_kin _ (Below.refl _ _) (by kernel_rfl) (by kernel_rfl) ?_
                  repeat (go_big_quiet_step (first | (go_at_call 42; exact kin_call (hW _)) | (go_at_call 41; exact kin_call (hF _))))
                  refine wpQuiet_nil ?_
                  rintro wq ⟨⟨xq, hxq⟩, hyq⟩
                  have HBq : Hid (Below w3.heap.size w3 wq) := by show Below _ _ _; rw [hyq]; exact bel_of HSm.out hxq HSm.out.size
                  have Hq2 : Hid (wq.cell? ⟨wr.heap.size, 0, none⟩ = some (.int .u32 (d.1 : Int))) := by show _ = _; rw [hyq]; exact cell_on1 hxq Hy2.out
                  have Hq3 : Hid (wq.cell? ⟨wr.heap.size, 1, none⟩ = some (.int .i64 (d.2 : Int))) := by show _ = _; rw [hyq]; exact cell_on1 hxq Hy3.out
                  clear hyq hxq xq kne kc1 kc2 kz0 kz1 hW hF Hy2 Hy3 HSm HBW2 x3 x4
                  generalize wr.heap.size = Bd at *
                  go_wp2_with (fail)
                  go_loopw [5, 10] (fun vs vj wr => ∃ j : Nat, j ≤ n ∧ vs = .int .i64 ((S0 + (S1 + (l.take j).countP (fun R => witX s (sr R) && witX d (ds R))) : Nat) : Int) ∧ vj = .int .i64 (j : Int) ∧ Hid (Below wq.heap.size wq wr)) (fun _ vj _ => n - (intOf vj).toNat)
                  case atStart => exact ⟨0, Nat.zero_le _, by simp, rfl, Below.refl _ _⟩
                  case round =>
                    obtain ⟨j, hj, rfl, rfl, HBj⟩ := hrel
                    have HBj3 : Hid (Below w3.heap.size w3 wr) := bel_of HBq.out HBj.out HBq.out.size
                    have HBjw : Hid (Below w.heap.size w wr) := bel_of HB3.out HBj3.out HB3.out.size
                    by_cases hltj : j < n
                    · have hltj' : j < l.length := by rw [← Hn.out]; exact hltj
                      have hltji : (j : Int) < (n : Int) := by omega
                      obtain ⟨g', off', e', c1, c2, c3, c4⟩ := rngP HS.out HO2.out wr HBjw.out j hltj'
                      injection e' with e'
                      injection e' with e1 e2
                      subst e1 e2
                      have hct := cntR_step (q := fun R => witX s (sr R) && witX d (ds R)) hltj'
                      have hcb : (l.take j).countP (fun R => witX s (sr R) && witX d (ds R)) ≤ 64 := Nat.le_trans List.countP_le_length (by rw [List.length_take]; omega)
                      have hRj := HO.out _ (List.getElem_mem hltj')
                      have ha1 : (sr l[j]).1 < 4294967296 := (okR_sr hRj.2 hRj.1).1.1
                      have ha2 : (ds l[j]).1 < 4294967296 := (okR_sr hRj.2 hRj.1).2.2.1.1
                      obtain ⟨a, ha⟩ : ∃ a, a = sr l[j] := ⟨_, rfl⟩
                      obtain ⟨b, hb⟩ : ∃ b, b = ds l[j] := ⟨_, rfl⟩
                      have hct2 : (l.take (j + 1)).countP (fun R => witX s (sr R) && witX d (ds R)) = (l.take j).countP (fun R => witX s (sr R) && witX d (ds R)) + if (witX s a && witX d b) = true then 1 else 0 := by rw [hct, ha, hb]
                      rw [← ha] at c1 c2 ha1
                      rw [← hb] at c3 c4 ha2
                      have Hct : Hid _ := hct2
                      clear hct hct2 ha hb hRj
                      have hW := fun W => rwitX s a W hs1 ha1
                      have hV := fun W => rwitX d b W hd1 ha2
                      generalize (l.take j).countP (fun R => witX s (sr R) && witX d (ds R)) = C at *
                      have z0 := cell_on1 HBj3.out Hy0.out
                      have z1 := cell_on1 HBj3.out Hy1.out
                      have z2 := cell_on1 HBj.out Hq2.out
                      have z3 := cell_on1 HBj.out Hq3.out
                      have kc1 : ∀ y : Kin wr, y.val.cell? ⟨g, off + j * 12 + 1, none⟩ = _ := fun y => cell_on1 y.is c1
                      have kc2 : ∀ y : Kin wr, y.val.cell? ⟨g, off + j * 12 + 2, none⟩ = _ := fun y => cell_on1 y.is c2
                      have kc3 : ∀ y : Kin wr, y.val.cell? ⟨g, off + j * 12 + 3, none⟩ = _ := fun y => cell_on1 y.is c3
                      have kc4 : ∀ y : Kin wr, y.val.cell? ⟨g, off + j * 12 + 4, none⟩ = _ := fun y => cell_on1 y.is c4
                      have kz0 : ∀ y : Kin wr, y.val.cell? ⟨Bs, 0, none⟩ = _ := fun y => cell_on1 y.is z0
                      have kz1 : ∀ y : Kin wr, y.val.cell? ⟨Bs, 1, none⟩ = _ := fun y => cell_on1 y.is z1
                      have kz2 : ∀ y : Kin wr, y.val.cell? ⟨Bd, 0, none⟩ = _ := fun y => cell_on1 y.is z2
                      have kz3 : ∀ y : Kin wr, y.val.cell? ⟨Bd, 1, none⟩ = _ := fun y => cell_on1 y.is z3
                      have kne : Nonempty (Kin wr) := ⟨⟨_, Below.refl _ _⟩⟩
                      clear c1 c2 c3 c4 z0 z1 z2 z3
                      cases hwi : witX s a with
                      | false =>
                        rw [hwi] at hW
                        have Hn4 : Hid ((l.take (j + 1)).countP (fun R => witX s (sr R) && witX d (ds R)) = C) := by have := Hct.out; rw [hwi] at this; show _ = _; simpa using this
                        clear hwi Hct hV kc3 kc4 kz2 kz3
                        go_upto_region 18 with (fail)
                        refine wp_region_kin _ (Below.refl _ _) (by kernel_rfl) (by kernel_rfl) ?_
                        repeat (go_big_quiet_step (first | (go_at_call 42; exact kin_call (hW _))))
                        refine wpQuiet_nil ?_
                        rintro wz ⟨⟨xq, hxq⟩, hyq⟩
                        have HB2 : Hid (Below wq.heap.size wq wz) := by show Below _ _ _; rw [hyq]; exact bel_of HBj.out hxq HBj.out.size
                        clear hyq hxq xq kne kc1 kc2 kz0 kz1 hW
                        go_wp2_with (fail)
                        go_roundw
                        case rel => exact ⟨j + 1, by omega, by rw [Hn4.out], by go_num, HB2.out⟩
                        case measure => simp [intOf]; omega
                      | true =>
                        rw [hwi] at hW
                        cases hvi : witX d b with
                        | false =>
                          rw [hvi] at hV
                          have Hn4 : Hid ((l.take (j + 1)).countP (fun R => witX s (sr R) && witX d (ds R)) = C) := by have := Hct.out; rw [hwi, hvi] at this; show _ = _; simpa using this
                          clear hwi hvi Hct
                          go_upto_region 18 with (fail)
                          refine wp_region_kin _ (Below.refl _ _) (by kernel_rfl) (by kernel_rfl) ?_
                          repeat (go_big_quiet_step (first | (go_at_call_of 42 (Value.agg #[Value.int IntKind.u32 (s.1 : Int), Value.int IntKind.i64 (s.2 : Int)]); exact kin_call (hW _)) | (go_at_call_of 42 (Value.agg #[Value.int IntKind.u32 (d.1 : Int), Value.int IntKind.i64 (d.2 : Int)]); exact kin_call (hV _))))
                          refine wpQuiet_nil ?_
                          rintro wz ⟨⟨xq, hxq⟩, hyq⟩
                          have HB2 : Hid (Below wq.heap.size wq wz) := by show Below _ _ _; rw [hyq]; exact bel_of HBj.out hxq HBj.out.size
                          clear hyq hxq xq kne kc1 kc2 kc3 kc4 kz0 kz1 kz2 kz3 hW hV
                          go_wp2_with (fail)
                          go_roundw
                          case rel => exact ⟨j + 1, by omega, by rw [Hn4.out], by go_num, HB2.out⟩
                          case measure => simp [intOf]; omega
                        | true =>
                          rw [hvi] at hV
                          have Hn4 : Hid ((l.take (j + 1)).countP (fun R => witX s (sr R) && witX d (ds R)) = C + 1) := by have := Hct.out; rw [hwi, hvi] at this; show _ = _; simpa using this
                          clear hwi hvi Hct
                          go_upto_region 18 with (fail)
                          refine wp_region_kin _ (Below.refl _ _) (by kernel_rfl) (by kernel_rfl) ?_
                          repeat (go_big_quiet_step (first | (go_at_call_of 42 (Value.agg #[Value.int IntKind.u32 (s.1 : Int), Value.int IntKind.i64 (s.2 : Int)]); exact kin_call (hW _)) | (go_at_call_of 42 (Value.agg #[Value.int IntKind.u32 (d.1 : Int), Value.int IntKind.i64 (d.2 : Int)]); exact kin_call (hV _))))
                          refine wpQuiet_nil ?_
                          rintro wz ⟨⟨xq, hxq⟩, hyq⟩
                          have HB2 : Hid (Below wq.heap.size wq wz) := by show Below _ _ _; rw [hyq]; exact bel_of HBj.out hxq HBj.out.size
                          clear hyq hxq xq kne kc1 kc2 kc3 kc4 kz0 kz1 kz2 kz3 hW hV
                          go_wp2_with (fail)
                          go_roundw
                          case rel => exact ⟨j + 1, by omega, by rw [Hn4.out]; go_num, by go_num, HB2.out⟩
                          case measure => simp [intOf]; omega
                    · obtain rfl : j = n := by omega
                      have hnj : ¬ (j : Int) < (j : Int) := by omega
                      have Hn5 : Hid (S0 + (S1 + (l.take j).countP (fun R => witX s (sr R) && witX d (ds R))) = S0 + sumF h (uq (tgs witX ((l.take (k + 1)).map pr) s))) := by show _ = _; rw [Hn3.out, ← Hn.out]
                      rw [Hn5.out]
                      clear Hn3 Hn5
                      go_wp2_with (fail)
                      go_roundw
                      case rel => exact ⟨k + 1, by omega, rfl, by go_num, HBj3.out⟩
                      case measure => simp [intOf]; omega
            · obtain rfl : k = n := by omega
              have hnk : ¬ (k : Int) < (k : Int) := by omega
              have Hnx2 : Hid (S0 + sumF h (uq (tgs witX ((l.take k).map pr) s)) = sumF f (uq ((l.take (i + 1)).map sr))) := by show _ = _; rw [Hnx.out, ← Hn.out]
              rw [Hnx2.out]
              clear Hnx Hnx2
              go_wp2_with (fail)
              go_roundw
              case rel => exact ⟨i + 1, by omega, rfl, by go_num, HBw.out⟩
              case measure => simp [intOf]; omega
      · obtain rfl : i = n := by omega
        have hni : ¬ (i : Int) < (i : Int) := by omega
        rw [← HG.out]
        go_wp2
        go_ret2
        exact ⟨rfl, HB.out⟩
  · have hG : prnL l = 0 := if_neg h0
    rw [hG]
    have h0' : (setE l 64 != 0) = true := by simpa using h0
    clear hG
    generalize setE l 64 = E at *
    go_enter Tryz.func18, Tryz.ntmps18
    go_wp2_with (fail)
    refine hC.mono ?_
    rintro e w1 ⟨rfl, hb1⟩
    have HB1 : Hid (Below w.heap.size w w1) := hb1
    clear hC hb1
    go_wp2
    go_ret2
    exact ⟨rfl, HB1.out⟩
end Go.Proofs.YtcjpjofoddpfhaaGreat
