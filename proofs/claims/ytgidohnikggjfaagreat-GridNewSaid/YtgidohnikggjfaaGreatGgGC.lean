/-
  GgGC: GdS GdE GdL GdI, one behind the other (tools/merge.py).
-/
import Derived.Test.YtgidohnikggjfaaGreatGgGB
import Derived.Test.YtgidohnikggjfaaGreatBxY
import Derived.ArgAppend
/-
  grid's seek and sow. Written by tools/mkGdS.py.
-/
namespace Go.Proofs.YtgidohnikggjfaaGreat
open Go.RowKit
set_option linter.unusedVariables false
set_option linter.unusedSimpArgs false

set_option maxHeartbeats 4000000 in
set_option maxRecDepth 20000 in
theorem seekC (F : Nat) (nv : Value) (N : List Pn) (G : List Lab) (f r : Nat) (x : Nat × Nat) (w : World) (h : Fo w F 0 nv (N.map mk0)) (hw : Gw N G) (hf : ix G (r, []) = f) (hx : Okx x) (hN : N.length ≤ 16777216) :
    Calls Tryz.prog 105 #[.pointer (some ⟨F, 0, none⟩), .int .i64 (f : Int), .agg #[.int .u32 (x.1), .int .i64 (x.2)]] w fun e w' => e = .returned (.int .i64 ((ix G (r, pp x) : Nat) : Int)) ∧ Below w.heap.size w w' := by
  obtain ⟨hx1, hx2, _⟩ := hx
  obtain ⟨a, n⟩ := x
  simp only at hx1 hx2
  have Hpp : Hid (pp (a, n) = pth a n) := rfl
  obtain ⟨w0, hw0⟩ : ∃ w0, w0 = w.alloc (.cells #[.int .u32 (a : Int), .int .i64 (n : Int)] 58) := ⟨_, rfl⟩
  have HB0 : Hid (Below w.heap.size w w0) := by rw [hw0]; exact (Below.refl _ _).alloc (Nat.le_refl _) _
  have HF0 : Hid (Fo w0 F 0 nv (N.map mk0)) := h.on HB0.out
  have HK0 : Hid (w0.heap[w.heap.size]? = some (.cells #[.int .u32 (a : Int), .int .i64 (n : Int)] 58 (0, 0))) := by rw [hw0]; exact blk_new w _
  have z0 : w0.cell? ⟨w.heap.size, 0, none⟩ = some (.int .u32 (a : Int)) := blk_cell HK0.out rfl
  have z1 : w0.cell? ⟨w.heap.size, 1, none⟩ = some (.int .i64 (n : Int)) := blk_cell HK0.out rfl
  have HW : Hid (Gw N G) := hw
  have HE0 : Hid (f = ix G (r, pth a 0)) := hf.symm
  have F0 := HF0.out.c0
  have hw0s : w.alloc (.cells #[.int .u32 (a : Int), .int .i64 (n : Int)] 58) = w0 := hw0.symm
  obtain ⟨m, hm⟩ : ∃ m, m = N.length := ⟨_, rfl⟩
  have Hm : Hid (m = N.length) := hm
  have hmb : (m : Int) ≤ 16777216 := by omega
  obtain ⟨ad, cap, hnv, _, _⟩ := h.nod.form
  rw [len_map0, ← hm] at hnv
  subst hnv
  clear hw0 h hw hf hN hm
  have hn0 : (n : Int) ≤ 32 := by omega
  go_enter Tryz.func105, Tryz.ntmps105
  go_wp2_with (fail)
  try simp only [hw0s]
  clear hw0s
  go_loopw [7, 14] (fun va vi wr => ∃ (k t : Nat), k ≤ n ∧ va = .int .i64 (t : Int) ∧ vi = .int .i64 (k : Int) ∧ Hid (t = ix G (r, pth a k)) ∧ wr = w0) (fun _ vi _ => n - (intOf vi).toNat)
  case atStart => exact ⟨0, f, Nat.zero_le _, rfl, rfl, HE0, rfl⟩
  case round =>
    obtain ⟨k, t, hk, rfl, rfl, HE, rfl⟩ := hrel
    by_cases hlt : k < n
    · have hlti : (k : Int) < (n : Int) := by omega
      have hA := atBC a k wr hx1 (by omega)
      have hbt : btv a k = Pf.tb a k := if_pos (by omega)
      have ht2 := btv_lt a k
      rw [hbt] at hA ht2
      have hlen : t < N.length := by rw [HE.out]; exact HW.out.ix_lt _
      have hkd := HW.out.kid r (pth a k) ht2
      rw [← pth_succ, ← HE.out] at hkd
      have hxt := nd_some hlen
      obtain ⟨x, hxe⟩ : ∃ x, x = nd N t := ⟨_, rfl⟩
      rw [← hxe] at hkd hxt
      obtain ⟨g, cap', e0, hcap, c0, c1, c2, c3, hfz, hxq⟩ := HF0.out.nod.cells (map_at0 hxt)
      rw [len_map0, ← Hm.out] at e0
      cases e0
      have htm : (t : Int) < (m : Int) := by have := Hm.out; omega
      simp only [mk0] at c0 c1 c2 c3
      clear hxq hxt hxe hbt hlen hcap hfz
      rcases (show Pf.tb a k = 0 ∨ Pf.tb a k = 1 by omega) with ht | ht
      · rw [ht] at hA hkd
        have HK1 : Hid (x.a = ix G (r, pth a (k + 1))) := hkd
        clear hkd
        go_wp2_with (go_at_call 55; refine hA.mono ?_; rintro e w4 ⟨er, rfl, hw4⟩; obtain rfl := hw4.symm; clear hw4)
        go_roundw
        case rel => exact ⟨k + 1, x.a, by omega, rfl, by go_num, HK1, trivial⟩
        case measure => simp [intOf]; omega
      · rw [ht] at hA hkd
        have HK1 : Hid (x.b = ix G (r, pth a (k + 1))) := hkd
        clear hkd
        go_wp2_with (go_at_call 55; refine hA.mono ?_; rintro e w4 ⟨er, rfl, hw4⟩; obtain rfl := hw4.symm; clear hw4)
        go_roundw
        case rel => exact ⟨k + 1, x.b, by omega, rfl, by go_num, HK1, trivial⟩
        case measure => simp [intOf]; omega
    · obtain rfl : k = n := by omega
      have hni : ¬ (k : Int) < (k : Int) := by omega
      go_wp2
      go_ret
      exact ⟨ret_int (by rw [HE.out, Hpp.out]), HB0.out⟩
theorem Sow.small {l : List Ru} {j : Nat} {N : List Pn} {G : List Lab} (h : Sow l j N G) (hj : j ≤ 64) : N.length ≤ 4200 := by have := h.few; omega
theorem Smid.small {l : List Ru} {j : Nat} {N : List Pn} {G : List Lab} {r : Nat} (h : Smid l j N G r) (hj : j ≤ 64) : N.length ≤ 4200 := by have := h.few; omega
set_option maxHeartbeats 8000000 in
set_option maxRecDepth 20000 in
theorem sowC (F : Nat) (nv lv v : Value) (l : List Ru) (w : World) (h : Fs w F nv lv ([pz, pz].map mk0)) (hv : Ku w F nv lv v l) (hl : l.length ≤ 64) (ok : OkA l) :
    Calls Tryz.prog 92 #[.pointer (some ⟨F, 0, none⟩), v] w fun e w' => e = .returned (.tuple #[]) ∧ ∃ N : List Pn, (∃ G : List Lab, Sow l l.length N G) ∧ ∃ nv' : Value, Fs w' F nv' lv (N.map mk0) ∧ Fm w w' F nv lv nv' lv := by
  have HV0 : Hid (Ku w F nv lv v l) := hv
  have HF0 : Hid (Fs w F nv lv ([pz, pz].map mk0)) := h
  have Hok : Hid (OkA l) := ok
  have Hl : Hid (l.length ≤ 64) := hl
  obtain ⟨ad, cap, rfl, hcp, hat⟩ := hv.1
  obtain ⟨n, hn⟩ : ∃ n, n = l.length := ⟨_, rfl⟩
  rw [← hn] at HV0 ⊢
  have Hn : Hid (n = l.length) := hn
  have hn64 : n ≤ 64 := by omega
  clear hn hl ok hv h hcp hat
  go_enter Tryz.func92, Tryz.ntmps92
  go_wp2_with (fail)
  go_loopw [10] (fun vi wr => ∃ (k : Nat) (N1 : List Pn) (G1 : List Lab) (nv1 : Value), k ≤ n ∧ vi = .int .i64 (k : Int) ∧ Hid (Sow l k N1 G1) ∧ Hid (Fs wr F nv1 lv (N1.map mk0)) ∧ Hid (Fm w wr F nv lv nv1 lv)) (fun vi _ => n - (intOf vi).toNat)
  case atStart => exact ⟨0, _, _, _, Nat.zero_le _, rfl, Sow.zero l, HF0, Fm.of_below (Below.refl _ _)⟩
  case round =>
    obtain ⟨k, N1, G1, nv1, hk, rfl, HH, HF, HM⟩ := hrel
    have HVr := HV0.out.moved HM.out
    by_cases hlt : k < n
    · have hlt' : k < l.length := by rw [← Hn.out]; exact hlt
      have hlti : (k : Int) < (n : Int) := by omega
      obtain ⟨g, off, e0, hrg⟩ := (rngU HVr.1).2 wr (Below.refl _ _) k hlt'
      subst e0
      have hbd := Hok.out _ (List.getElem_mem hlt')
      have hRu : ruAt l k = l[k] := ruAt_at hlt'
      obtain ⟨p, hp⟩ : ∃ p, p = l[k] := ⟨_, rfl⟩
      rw [← hp] at hrg hbd hRu
      have hqq := okR_sr hbd.2 hbd.1
      have hox := hqq.1
      have hq1 := hqq.2.1
      have hoy := hqq.2.2.1
      have hq2 := hqq.2.2.2
      clear hqq
      obtain ⟨ss, hss⟩ : ∃ ss, ss = sr p := ⟨_, rfl⟩
      obtain ⟨dd, hdd⟩ : ∃ dd, dd = ds p := ⟨_, rfl⟩
      have x0 : wr.cell? ⟨g, off + k * 12, none⟩ = some (.int .i64 p.i) := hrg 0 _ rfl
      have x1 : wr.cell? ⟨g, off + k * 12 + 1, none⟩ = some (.int .u32 (ss.1 : Int)) := by rw [hss]; exact hrg 1 _ rfl
      have x2 : wr.cell? ⟨g, off + k * 12 + 2, none⟩ = some (.int .i64 (ss.2 : Int)) := by rw [hss, ← hq1]; exact hrg 2 _ rfl
      have x3 : wr.cell? ⟨g, off + k * 12 + 3, none⟩ = some (.int .u32 (dd.1 : Int)) := by rw [hdd]; exact hrg 3 _ rfl
      have x4 : wr.cell? ⟨g, off + k * 12 + 4, none⟩ = some (.int .i64 (dd.2 : Int)) := by rw [hdd, ← hq2]; exact hrg 4 _ rfl
      have x5 : wr.cell? ⟨g, off + k * 12 + 5, none⟩ = some (.int .u16 (p.p.1 : Int)) := hrg 5 _ rfl
      have x6 : wr.cell? ⟨g, off + k * 12 + 6, none⟩ = some (.int .u16 (p.p.2 : Int)) := hrg 6 _ rfl
      have x7 : wr.cell? ⟨g, off + k * 12 + 7, none⟩ = some (.int .u16 (p.q.1 : Int)) := hrg 7 _ rfl
      have x8 : wr.cell? ⟨g, off + k * 12 + 8, none⟩ = some (.int .u16 (p.q.2 : Int)) := hrg 8 _ rfl
      have x9 : wr.cell? ⟨g, off + k * 12 + 9, none⟩ = some (.int .u8 (p.m.1 : Int)) := hrg 9 _ rfl
      have x10 : wr.cell? ⟨g, off + k * 12 + 10, none⟩ = some (.int .u8 (p.m.2 : Int)) := hrg 10 _ rfl
      have x11 : wr.cell? ⟨g, off + k * 12 + 11, none⟩ = some (.int .i64 p.act) := hrg 11 _ rfl
      rw [← hss] at hox
      rw [← hdd] at hoy
      have hsr : sr (ruAt l k) = ss := by rw [hRu, hss]
      have hds : ds (ruAt l k) = dd := by rw [hRu, hdd]
      obtain ⟨W1, hW1⟩ : ∃ W1, W1 = wr.alloc (.cells #[.int .i64 p.i, .int .u32 (ss.1 : Int), .int .i64 (ss.2 : Int), .int .u32 (dd.1 : Int), .int .i64 (dd.2 : Int), .int .u16 (p.p.1 : Int), .int .u16 (p.p.2 : Int), .int .u16 (p.q.1 : Int), .int .u16 (p.q.2 : Int), .int .u8 (p.m.1 : Int), .int .u8 (p.m.2 : Int), .int .i64 p.act] 64) := ⟨_, rfl⟩
      have hbW : Below wr.heap.size wr W1 := by rw [hW1]; exact (Below.refl _ _).alloc (Nat.le_refl _) _
      have HK1 : Hid (Kf W1 F nv1 lv wr.heap.size (.cells #[.int .i64 p.i, .int .u32 (ss.1 : Int), .int .i64 (ss.2 : Int), .int .u32 (dd.1 : Int), .int .i64 (dd.2 : Int), .int .u16 (p.p.1 : Int), .int .u16 (p.p.2 : Int), .int .u16 (p.q.1 : Int), .int .u16 (p.q.2 : Int), .int .u8 (p.m.1 : Int), .int .u8 (p.m.2 : Int), .int .i64 p.act] 64 (0, 0))) := by rw [hW1]; exact Kf.new HF.out _
      have HFa : Hid (Fs W1 F nv1 lv (N1.map mk0)) := HF.out.on hbW
      have HMa : Hid (Fm w W1 F nv lv nv1 lv) := HM.out.trans (Fm.of_below hbW)
      have y1 : W1.cell? ⟨wr.heap.size, 1, none⟩ = some (.int .u32 (ss.1 : Int)) := blk_cell HK1.out.1 rfl
      have y2 : W1.cell? ⟨wr.heap.size, 2, none⟩ = some (.int .i64 (ss.2 : Int)) := blk_cell HK1.out.1 rfl
      have hsm := HH.out.small (by omega)
      have hRc := reachC F nv1 lv N1 G1 1 1 ss W1 HFa.out HH.out.gw (by decide) HH.out.gw.r1 (okx_of hox) (by omega)
      clear hrg hbd hp HVr hq1 hq2 hss hdd hbW HF HM hRu
      subst hW1
      go_wp2_with (go_at_call 102; fail)
      refine hRc.mono ?_
      rintro e w2 ⟨N2, G2, t, rfl, hR2, nv2, hf2, hm2⟩
      obtain ⟨x, hx⟩ := hR2.gw.wf.node hR2.rch.here
      obtain ⟨g2, cap2, hnv2, hcap2, d0, d1, d2, d3, hfz2, hxq⟩ := hf2.nod.cells (map_at0 hx)
      have HF2 : Hid (Fs w2 F nv2 lv (N2.map mk0)) := hf2
      have HM2 : Hid (Fm w w2 F nv lv nv2 lv) := HMa.out.trans hm2
      have HK2 : Hid (Kf w2 F nv2 lv wr.heap.size (.cells #[.int .i64 p.i, .int .u32 (ss.1 : Int), .int .i64 (ss.2 : Int), .int .u32 (dd.1 : Int), .int .i64 (dd.2 : Int), .int .u16 (p.p.1 : Int), .int .u16 (p.p.2 : Int), .int .u16 (p.q.1 : Int), .int .u16 (p.q.2 : Int), .int .u8 (p.m.1 : Int), .int .u8 (p.m.2 : Int), .int .i64 p.act] 64 (0, 0))) := HK1.out.moved hm2
      have htl := pn_lt hx
      rw [← hsr] at hR2
      have hmid : (x.c ≠ 0 → Smid l k N2 G2 x.c) ∧ (x.c = 0 → Smid l k ((N2 ++ [pz]).set t (x.bear N2.length)) (G2 ++ [(N2.length, [])]) N2.length) := ⟨fun e => HH.out.midA hR2 (by rw [hsr]; exact okx_of hox) hx e, fun e => HH.out.midB hR2 (by rw [hsr]; exact okx_of hox) hx e⟩
      have hn2 : N2.length ≤ 4232 := by
        have h1 := hR2.rch.few; have h2 := hR2.gw.wf.len; have h4 := HH.out.gw.wf.len; have h5 : (pp (sr (ruAt l k))).length ≤ 32 := by rw [hsr]; exact pp_len (okx_of hox)
        omega
      obtain ⟨m2, hmm2⟩ : ∃ m2, m2 = N2.length := ⟨_, rfl⟩
      rw [len_map0, ← hmm2] at hnv2
      rw [← hmm2] at htl hn2
      have Hm2 : Hid (m2 = N2.length) := hmm2
      have Hx : Hid (N2[t]? = some x) := hx
      have hti : (t : Int) < (m2 : Int) := by omega
      have hm2b : (m2 : Int) ≤ 4232 := by omega
      subst hnv2
      obtain ⟨F20, F21⟩ := blk2 hf2.blk
      simp only [mk0] at d0 d1 d2 d3
      have Hoy : Hid (OkX dd) := hoy
      have Hds : Hid (ds (ruAt l k) = dd) := hds
      clear hxq hRc hf2 hm2 hR2 hx hmm2 hox y1 y2 x0 x1 x2 x3 x4 x5 x6 x7 x8 x9 x10 x11 HK1 HFa HMa hsm hcap2 hsr hds hoy HH
      by_cases hc : x.c = 0
      · have hci : ((x.c : Int) == 0) = true := by rw [hc]; rfl
        have HS : Hid (Smid l k ((N2 ++ [pz]).set t (x.bear N2.length)) (G2 ++ [(N2.length, [])]) N2.length) := hmid.2 hc
        have hG := growC F _ lv (N2.map mk0) w2 HF2.out (by rw [len_map0, ← Hm2.out]; omega)
        rw [len_map0, ← Hm2.out] at hG
        clear hmid hc
        go_wp2_with (go_at_call 103; fail)
        refine hG.mono ?_
        rintro e w3 ⟨rfl, nv3, hf3, hm3⟩
        have HF3 : Hid (Fs w3 F nv3 lv ((N2 ++ [pz]).map mk0)) := by rw [List.map_append]; exact hf3
        have HM3 : Hid (Fm w w3 F nv lv nv3 lv) := HM2.out.trans hm3
        have HK3 : Hid (Kf w3 F nv3 lv wr.heap.size (.cells #[.int .i64 p.i, .int .u32 (ss.1 : Int), .int .i64 (ss.2 : Int), .int .u32 (dd.1 : Int), .int .i64 (dd.2 : Int), .int .u16 (p.p.1 : Int), .int .u16 (p.p.2 : Int), .int .u16 (p.q.1 : Int), .int .u16 (p.q.2 : Int), .int .u8 (p.m.1 : Int), .int .u8 (p.m.2 : Int), .int .i64 p.act] 64 (0, 0))) := HK2.out.moved hm3
        have hx3 : (N2 ++ [pz])[t]? = some x := pn_app.2 (.inl Hx.out)
        obtain ⟨g3, cap3, rfl, hcap3, e0, e1, e2, e3, hfz3, hxq⟩ := HF3.out.nod.cells (map_at0 hx3)
        have hl3 : ((N2 ++ [pz]).map mk0).length = m2 + 1 := by rw [len_map0, List.length_append, Hm2.out]; rfl
        rw [hl3] at HF3 HM3 HK3 hf3
        obtain ⟨F30, _⟩ := blk2 HF3.out.blk
        have hset := HF3.out.cell0 t 2 x hx3 (by decide) (x.bear N2.length) (.int .i64 (m2 : Int)) (by rw [Hm2.out]; exact enc_bear x _)
        have HF4 : Hid (Fs (w3.setCell ⟨g3, t * 4 + 2, none⟩ (.int .i64 (m2 : Int))) F (.slice (some ⟨g3, 0, none⟩) (m2 + 1) cap3) lv (((N2 ++ [pz]).set t (x.bear N2.length)).map mk0)) := hset.1
        have HM4 : Hid (Fm w (w3.setCell ⟨g3, t * 4 + 2, none⟩ (.int .i64 (m2 : Int))) F nv lv (.slice (some ⟨g3, 0, none⟩) (m2 + 1) cap3) lv) := HM3.out.trans hset.2
        have HK4 : Hid (Kf (w3.setCell ⟨g3, t * 4 + 2, none⟩ (.int .i64 (m2 : Int))) F (.slice (some ⟨g3, 0, none⟩) (m2 + 1) cap3) lv wr.heap.size (.cells #[.int .i64 p.i, .int .u32 (ss.1 : Int), .int .i64 (ss.2 : Int), .int .u32 (dd.1 : Int), .int .i64 (dd.2 : Int), .int .u16 (p.p.1 : Int), .int .u16 (p.p.2 : Int), .int .u16 (p.q.1 : Int), .int .u16 (p.q.2 : Int), .int .u8 (p.m.1 : Int), .int .u8 (p.m.2 : Int), .int .i64 p.act] 64 (0, 0))) := HK3.out.moved hset.2
        have hz3 := hfz3 (t * 4 + 2)
        have ht3 : (t : Int) < (m2 : Int) + 1 := by omega
        simp only [mk0] at e0 e1 e2 e3
        have HSx : Hid (((N2 ++ [pz]).set t (x.bear N2.length))[t]? = some (x.bear N2.length)) := (pn_set (by simp; have := Hm2.out; omega)).2 (.inl ⟨rfl, rfl⟩)
        generalize (N2 ++ [pz]).set t (x.bear N2.length) = N3 at *
        rw [← Hm2.out] at HS HSx
        generalize G2 ++ [(m2, [])] = G3 at *
        clear hxq hset hfz3 hf3 hm3 hG hx3 HF3 HM3 HK3 HF2 HM2 HK2 d0 d1 d2 d3 F20 F21 hfz2
        go_wp2_with (fail)
        generalize w3.setCell ⟨g3, t * 4 + 2, none⟩ (.int .i64 (m2 : Int)) = W at *
        have htx : (t : Int) < ((m2 + 1 : Nat) : Int) := by omega
        have htx2 : ¬ ((t : Int) < 0) := by omega
        have HFd : Hid (Fs W.drew F (.slice (some ⟨g3, 0, none⟩) (m2 + 1) cap3) lv (N3.map mk0)) := HF4.out.on (Below.refl _ _).drew
        have HMd : Hid (Fm w W.drew F nv lv (.slice (some ⟨g3, 0, none⟩) (m2 + 1) cap3) lv) := HM4.out.trans (Fm.of_below (Below.refl _ _).drew)
        have HKd : Hid (Kf W.drew F (.slice (some ⟨g3, 0, none⟩) (m2 + 1) cap3) lv wr.heap.size (.cells #[.int .i64 p.i, .int .u32 (ss.1 : Int), .int .i64 (ss.2 : Int), .int .u32 (dd.1 : Int), .int .i64 (dd.2 : Int), .int .u16 (p.p.1 : Int), .int .u16 (p.p.2 : Int), .int .u16 (p.q.1 : Int), .int .u16 (p.q.2 : Int), .int .u8 (p.m.1 : Int), .int .u8 (p.m.2 : Int), .int .i64 p.act] 64 (0, 0))) := HK4.out.on (Below.refl _ _).drew
        have q34 : W.drew.cell? ⟨wr.heap.size, 3, none⟩ = some (.int .u32 (dd.1 : Int)) ∧ W.drew.cell? ⟨wr.heap.size, 4, none⟩ = some (.int .i64 (dd.2 : Int)) := ⟨blk_cell HKd.out.1 rfl, blk_cell HKd.out.1 rfl⟩
        have f0 := (blk2 HFd.out.blk).1
        obtain ⟨gx, capx, ex, _, _, _, cx, _, _, _⟩ := HFd.out.nod.cells (map_at0 HSx.out)
        injection ex with ex1 ex2 ex3
        cases ex1
        clear ex2 ex3
        simp only [mk0, Pn.bear] at cx
        have hroot := HS.out.root
        have hRd := reachC F _ lv N3 G3 m2 m2 dd W.drew HFd.out HS.out.gw (by omega) hroot.2 (okx_of Hoy.out) (by have := HS.out.small (by omega); omega)
        have HDone : Hid (∀ {N5 : List Pn} {G5 : List Lab} {t5 : Nat}, Rg N3 G3 m2 (pp dd) N5 G5 t5 → Sow l (k + 1) N5 G5) := fun {N5 G5 t5} R => HS.out.done (by rw [Hds.out]; exact R) (by rw [Hds.out]; exact okx_of Hoy.out)
        clear hroot
        go_upto_region 7 with (fail)
        refine wp_region_held_drew (S := fun w' => w'.cell? ⟨wr.heap.size, 3, none⟩ = some (.int .u32 (dd.1 : Int)) ∧ w'.cell? ⟨wr.heap.size, 4, none⟩ = some (.int .i64 (dd.2 : Int))) (by kernel_rfl) q34 (fun hS0 => ?_)
        show wpAnyH _ _ _ _ _ 12 _ _ _
        refine wpAnyH_take (i := 0) (v := .pointer (some ⟨F, 0, none⟩)) rfl (by kernel_rfl) (by kernel_rfl) (by kernel_rfl) (fun _ _ _ h => h) (.inl ⟨rfl, fun _ _ => by simp [execOp, go_sem]⟩) hS0 ?_
        simp only [List.getElem_toArray, List.getElem_cons_succ, List.getElem_cons_zero, Act.put, List.setIfInBounds_toArray, List.set_cons_zero, List.set_cons_succ]
        refine wpAnyH_take (i := 1) (v := .pointer (some ⟨F, 0, none⟩)) rfl (by kernel_rfl) (by kernel_rfl) (by kernel_rfl) (fun _ _ _ h => h) (.inl ⟨rfl, fun _ _ => by simp [execOp, go_sem]⟩) hS0 ?_
        simp only [List.getElem_toArray, List.getElem_cons_succ, List.getElem_cons_zero, Act.put, List.setIfInBounds_toArray, List.set_cons_zero, List.set_cons_succ]
        refine wpAnyH_take (i := 2) (v := .pointer (some ⟨F, 0, none⟩)) rfl (by kernel_rfl) (by kernel_rfl) (by kernel_rfl) (fun _ _ _ h => h) (.inl ⟨rfl, fun _ _ => by simp [execOp, go_sem]⟩) hS0 ?_
        simp only [List.getElem_toArray, List.getElem_cons_succ, List.getElem_cons_zero, Act.put, List.setIfInBounds_toArray, List.set_cons_zero, List.set_cons_succ]
        refine wpAnyH_take (i := 3) (v := .pointer (some ⟨F, 0, none⟩)) rfl (by kernel_rfl) (by kernel_rfl) (by kernel_rfl) (fun _ _ _ h => h) (.inl ⟨rfl, fun _ _ => by simp [execOp, go_sem]⟩) hS0 ?_
        simp only [List.getElem_toArray, List.getElem_cons_succ, List.getElem_cons_zero, Act.put, List.setIfInBounds_toArray, List.set_cons_zero, List.set_cons_succ]
        refine wpAnyH_take (i := 5) (v := .int .i64 (t : Int)) rfl (by kernel_rfl) (by kernel_rfl) (by kernel_rfl) (fun _ _ _ h => h) (.inl ⟨rfl, fun _ _ => by simp [execOp, go_sem]⟩) hS0 ?_
        simp only [List.getElem_toArray, List.getElem_cons_succ, List.getElem_cons_zero, Act.put, List.setIfInBounds_toArray, List.set_cons_zero, List.set_cons_succ]
        refine wpAnyH_take (i := 9) (v := .pointer (some ⟨wr.heap.size, 3, none⟩)) rfl (by kernel_rfl) (by kernel_rfl) (by kernel_rfl) (fun _ _ _ h => h) (.inl ⟨rfl, fun _ _ => by simp [execOp, go_sem]⟩) hS0 ?_
        simp only [List.getElem_toArray, List.getElem_cons_succ, List.getElem_cons_zero, Act.put, List.setIfInBounds_toArray, List.set_cons_zero, List.set_cons_succ]
        refine wpAnyH_take (i := 10) (v := .agg #[.int .u32 (dd.1 : Int), .int .i64 (dd.2 : Int)]) rfl (by kernel_rfl) (by kernel_rfl) (by kernel_rfl) (fun _ _ _ h => h) (.inl ⟨rfl, fun w' hw' => by have hcc := hw'.1; have hcd := hw'.2; simp [execOp, go_sem, hcc, hcd]⟩) hS0 ?_
        simp only [List.getElem_toArray, List.getElem_cons_succ, List.getElem_cons_zero, Act.put, List.setIfInBounds_toArray, List.set_cons_zero, List.set_cons_succ]
        refine wpAnyH_all (rs := [4]) (by kernel_rfl) (by simp) ?_
        intro i hi
        simp only [List.mem_cons, List.not_mem_nil, or_false] at hi
        subst hi
        refine wpOp_of_wp rfl rfl (fun K' hK' => ?_)
        go_wp2_with (fail)
        try refine ⟨q34, ?_⟩
        try simp only [List.getElem_toArray, List.getElem_cons_succ, List.getElem_cons_zero, Act.put, List.setIfInBounds_toArray, List.set_cons_zero, List.set_cons_succ]
        refine wpAnyH_take (i := 6) (v := .pointer (some ⟨g3, t * 4, none⟩)) rfl (by kernel_rfl) (by kernel_rfl) (by kernel_rfl) (fun _ _ _ h => h) (yieldsIf_index rfl 73 (.tmp 41) (.tmp 42) rfl _ (fun w => by simp [Instr.indexAt, go_sem, htx, htx2]; intro hh; omega)) hS0 ?_
        simp only [List.getElem_toArray, List.getElem_cons_succ, List.getElem_cons_zero, Act.put, List.setIfInBounds_toArray, List.set_cons_zero, List.set_cons_succ]
        refine wpAnyH_take (i := 7) (v := .pointer (some ⟨g3, t * 4 + 2, none⟩)) rfl (by kernel_rfl) (by kernel_rfl) (by kernel_rfl) (fun _ _ _ h => h) (.inl ⟨rfl, fun _ _ => by simp [execOp, go_sem]⟩) hS0 ?_
        simp only [List.getElem_toArray, List.getElem_cons_succ, List.getElem_cons_zero, Act.put, List.setIfInBounds_toArray, List.set_cons_zero, List.set_cons_succ]
        refine wpAnyH_all (rs := [8]) (by kernel_rfl) (by simp) ?_
        intro i hi
        simp only [List.mem_cons, List.not_mem_nil, or_false] at hi
        subst hi
        refine wpOp_of_wp rfl rfl (fun K' hK' => ?_)
        go_wp2_with (fail)
        try refine ⟨q34, ?_⟩
        try simp only [List.getElem_toArray, List.getElem_cons_succ, List.getElem_cons_zero, Act.put, List.setIfInBounds_toArray, List.set_cons_zero, List.set_cons_succ]
        refine wpAnyH_all (rs := [11]) (by kernel_rfl) (by simp) ?_
        intro i hi
        simp only [List.mem_cons, List.not_mem_nil, or_false] at hi
        subst hi
        refine wpOp_of_wp rfl rfl (fun K' hK' => ?_)
        go_wp2_with (go_at_call 102; fail)
        refine hRd.mono ?_
        rintro e w5 ⟨N5, G5, t5, rfl, hR5, nv5, hf5, hm5⟩
        have HS5 : Hid (Sow l (k + 1) N5 G5) := HDone.out hR5
        have HF5 : Hid (Fs w5 F nv5 lv (N5.map mk0)) := hf5
        have HM5 : Hid (Fm w w5 F nv lv nv5 lv) := HMd.out.trans hm5
        have HK5 := HKd.out.moved hm5
        refine hK' _ _ ⟨⟨blk_cell HK5.1 rfl, blk_cell HK5.1 rfl⟩, ?_⟩
        refine wpAnyH_done (by kernel_rfl) ?_ _
        try simp only [List.getElem_toArray, List.getElem_cons_succ, List.getElem_cons_zero, Act.put, List.setIfInBounds_toArray, List.set_cons_zero, List.set_cons_succ]
        clear hR5 hf5 hm5 HK5 hRd HDone q34 hS0 cx f0 HFd HMd HKd
        go_wp2_with (fail)
        go_roundw
        case rel => exact ⟨k + 1, _, _, _, by omega, by go_num, HS5, HF5, HM5⟩
        case measure => simp [intOf]; omega
      · have hci : ((x.c : Int) == 0) = false := by rw [beq_eq_false_iff_ne]; omega
        have HS : Hid (Smid l k N2 G2 x.c) := hmid.1 hc
        clear hmid hc
        go_wp2_with (fail)
        have htx : (t : Int) < (m2 : Int) := by omega
        have htx2 : ¬ ((t : Int) < 0) := by omega
        have HFd : Hid (Fs w2.drew F (.slice (some ⟨g2, 0, none⟩) m2 cap2) lv (N2.map mk0)) := HF2.out.on (Below.refl _ _).drew
        have HMd : Hid (Fm w w2.drew F nv lv (.slice (some ⟨g2, 0, none⟩) m2 cap2) lv) := HM2.out.trans (Fm.of_below (Below.refl _ _).drew)
        have HKd : Hid (Kf w2.drew F (.slice (some ⟨g2, 0, none⟩) m2 cap2) lv wr.heap.size (.cells #[.int .i64 p.i, .int .u32 (ss.1 : Int), .int .i64 (ss.2 : Int), .int .u32 (dd.1 : Int), .int .i64 (dd.2 : Int), .int .u16 (p.p.1 : Int), .int .u16 (p.p.2 : Int), .int .u16 (p.q.1 : Int), .int .u16 (p.q.2 : Int), .int .u8 (p.m.1 : Int), .int .u8 (p.m.2 : Int), .int .i64 p.act] 64 (0, 0))) := HK2.out.on (Below.refl _ _).drew
        have q34 : w2.drew.cell? ⟨wr.heap.size, 3, none⟩ = some (.int .u32 (dd.1 : Int)) ∧ w2.drew.cell? ⟨wr.heap.size, 4, none⟩ = some (.int .i64 (dd.2 : Int)) := ⟨blk_cell HKd.out.1 rfl, blk_cell HKd.out.1 rfl⟩
        have f0 := (blk2 HFd.out.blk).1
        obtain ⟨gx, capx, ex, _, _, _, cx, _, _, _⟩ := HFd.out.nod.cells (map_at0 Hx.out)
        injection ex with ex1 ex2 ex3
        cases ex1
        clear ex2 ex3
        simp only [mk0] at cx
        have hroot := HS.out.root
        have hRd := reachC F _ lv N2 G2 x.c x.c dd w2.drew HFd.out HS.out.gw (by omega) hroot.2 (okx_of Hoy.out) (by have := HS.out.small (by omega); omega)
        have HDone : Hid (∀ {N5 : List Pn} {G5 : List Lab} {t5 : Nat}, Rg N2 G2 x.c (pp dd) N5 G5 t5 → Sow l (k + 1) N5 G5) := fun {N5 G5 t5} R => HS.out.done (by rw [Hds.out]; exact R) (by rw [Hds.out]; exact okx_of Hoy.out)
        clear hroot
        go_upto_region 7 with (fail)
        refine wp_region_held_drew (S := fun w' => w'.cell? ⟨wr.heap.size, 3, none⟩ = some (.int .u32 (dd.1 : Int)) ∧ w'.cell? ⟨wr.heap.size, 4, none⟩ = some (.int .i64 (dd.2 : Int))) (by kernel_rfl) q34 (fun hS0 => ?_)
        show wpAnyH _ _ _ _ _ 12 _ _ _
        refine wpAnyH_take (i := 0) (v := .pointer (some ⟨F, 0, none⟩)) rfl (by kernel_rfl) (by kernel_rfl) (by kernel_rfl) (fun _ _ _ h => h) (.inl ⟨rfl, fun _ _ => by simp [execOp, go_sem]⟩) hS0 ?_
        simp only [List.getElem_toArray, List.getElem_cons_succ, List.getElem_cons_zero, Act.put, List.setIfInBounds_toArray, List.set_cons_zero, List.set_cons_succ]
        refine wpAnyH_take (i := 1) (v := .pointer (some ⟨F, 0, none⟩)) rfl (by kernel_rfl) (by kernel_rfl) (by kernel_rfl) (fun _ _ _ h => h) (.inl ⟨rfl, fun _ _ => by simp [execOp, go_sem]⟩) hS0 ?_
        simp only [List.getElem_toArray, List.getElem_cons_succ, List.getElem_cons_zero, Act.put, List.setIfInBounds_toArray, List.set_cons_zero, List.set_cons_succ]
        refine wpAnyH_take (i := 2) (v := .pointer (some ⟨F, 0, none⟩)) rfl (by kernel_rfl) (by kernel_rfl) (by kernel_rfl) (fun _ _ _ h => h) (.inl ⟨rfl, fun _ _ => by simp [execOp, go_sem]⟩) hS0 ?_
        simp only [List.getElem_toArray, List.getElem_cons_succ, List.getElem_cons_zero, Act.put, List.setIfInBounds_toArray, List.set_cons_zero, List.set_cons_succ]
        refine wpAnyH_take (i := 3) (v := .pointer (some ⟨F, 0, none⟩)) rfl (by kernel_rfl) (by kernel_rfl) (by kernel_rfl) (fun _ _ _ h => h) (.inl ⟨rfl, fun _ _ => by simp [execOp, go_sem]⟩) hS0 ?_
        simp only [List.getElem_toArray, List.getElem_cons_succ, List.getElem_cons_zero, Act.put, List.setIfInBounds_toArray, List.set_cons_zero, List.set_cons_succ]
        refine wpAnyH_take (i := 5) (v := .int .i64 (t : Int)) rfl (by kernel_rfl) (by kernel_rfl) (by kernel_rfl) (fun _ _ _ h => h) (.inl ⟨rfl, fun _ _ => by simp [execOp, go_sem]⟩) hS0 ?_
        simp only [List.getElem_toArray, List.getElem_cons_succ, List.getElem_cons_zero, Act.put, List.setIfInBounds_toArray, List.set_cons_zero, List.set_cons_succ]
        refine wpAnyH_take (i := 9) (v := .pointer (some ⟨wr.heap.size, 3, none⟩)) rfl (by kernel_rfl) (by kernel_rfl) (by kernel_rfl) (fun _ _ _ h => h) (.inl ⟨rfl, fun _ _ => by simp [execOp, go_sem]⟩) hS0 ?_
        simp only [List.getElem_toArray, List.getElem_cons_succ, List.getElem_cons_zero, Act.put, List.setIfInBounds_toArray, List.set_cons_zero, List.set_cons_succ]
        refine wpAnyH_take (i := 10) (v := .agg #[.int .u32 (dd.1 : Int), .int .i64 (dd.2 : Int)]) rfl (by kernel_rfl) (by kernel_rfl) (by kernel_rfl) (fun _ _ _ h => h) (.inl ⟨rfl, fun w' hw' => by have hcc := hw'.1; have hcd := hw'.2; simp [execOp, go_sem, hcc, hcd]⟩) hS0 ?_
        simp only [List.getElem_toArray, List.getElem_cons_succ, List.getElem_cons_zero, Act.put, List.setIfInBounds_toArray, List.set_cons_zero, List.set_cons_succ]
        refine wpAnyH_all (rs := [4]) (by kernel_rfl) (by simp) ?_
        intro i hi
        simp only [List.mem_cons, List.not_mem_nil, or_false] at hi
        subst hi
        refine wpOp_of_wp rfl rfl (fun K' hK' => ?_)
        go_wp2_with (fail)
        try refine ⟨q34, ?_⟩
        try simp only [List.getElem_toArray, List.getElem_cons_succ, List.getElem_cons_zero, Act.put, List.setIfInBounds_toArray, List.set_cons_zero, List.set_cons_succ]
        refine wpAnyH_take (i := 6) (v := .pointer (some ⟨g2, t * 4, none⟩)) rfl (by kernel_rfl) (by kernel_rfl) (by kernel_rfl) (fun _ _ _ h => h) (yieldsIf_index rfl 73 (.tmp 41) (.tmp 42) rfl _ (fun w => by simp [Instr.indexAt, go_sem, htx, htx2]; intro hh; omega)) hS0 ?_
        simp only [List.getElem_toArray, List.getElem_cons_succ, List.getElem_cons_zero, Act.put, List.setIfInBounds_toArray, List.set_cons_zero, List.set_cons_succ]
        refine wpAnyH_take (i := 7) (v := .pointer (some ⟨g2, t * 4 + 2, none⟩)) rfl (by kernel_rfl) (by kernel_rfl) (by kernel_rfl) (fun _ _ _ h => h) (.inl ⟨rfl, fun _ _ => by simp [execOp, go_sem]⟩) hS0 ?_
        simp only [List.getElem_toArray, List.getElem_cons_succ, List.getElem_cons_zero, Act.put, List.setIfInBounds_toArray, List.set_cons_zero, List.set_cons_succ]
        refine wpAnyH_all (rs := [8]) (by kernel_rfl) (by simp) ?_
        intro i hi
        simp only [List.mem_cons, List.not_mem_nil, or_false] at hi
        subst hi
        refine wpOp_of_wp rfl rfl (fun K' hK' => ?_)
        go_wp2_with (fail)
        try refine ⟨q34, ?_⟩
        try simp only [List.getElem_toArray, List.getElem_cons_succ, List.getElem_cons_zero, Act.put, List.setIfInBounds_toArray, List.set_cons_zero, List.set_cons_succ]
        refine wpAnyH_all (rs := [11]) (by kernel_rfl) (by simp) ?_
        intro i hi
        simp only [List.mem_cons, List.not_mem_nil, or_false] at hi
        subst hi
        refine wpOp_of_wp rfl rfl (fun K' hK' => ?_)
        go_wp2_with (go_at_call 102; fail)
        refine hRd.mono ?_
        rintro e w5 ⟨N5, G5, t5, rfl, hR5, nv5, hf5, hm5⟩
        have HS5 : Hid (Sow l (k + 1) N5 G5) := HDone.out hR5
        have HF5 : Hid (Fs w5 F nv5 lv (N5.map mk0)) := hf5
        have HM5 : Hid (Fm w w5 F nv lv nv5 lv) := HMd.out.trans hm5
        have HK5 := HKd.out.moved hm5
        refine hK' _ _ ⟨⟨blk_cell HK5.1 rfl, blk_cell HK5.1 rfl⟩, ?_⟩
        refine wpAnyH_done (by kernel_rfl) ?_ _
        try simp only [List.getElem_toArray, List.getElem_cons_succ, List.getElem_cons_zero, Act.put, List.setIfInBounds_toArray, List.set_cons_zero, List.set_cons_succ]
        clear hR5 hf5 hm5 HK5 hRd HDone q34 hS0 cx f0 HFd HMd HKd
        go_wp2_with (fail)
        go_roundw
        case rel => exact ⟨k + 1, _, _, _, by omega, by go_num, HS5, HF5, HM5⟩
        case measure => simp [intOf]; omega
    · obtain rfl : k = n := by omega
      have hni2 : ¬ (k : Int) < (k : Int) := by omega
      go_wp2_with (fail)
      go_end0
      exact ⟨rfl, N1, ⟨G1, HH.out⟩, nv1, HF.out, HM.out⟩
end Go.Proofs.YtgidohnikggjfaaGreat
/-
  grid's sources and entries. Written by tools/mkGdE.py.
-/
namespace Go.Proofs.YtgidohnikggjfaaGreat
open Go.RowKit Go.Lib
set_option linter.unusedVariables false
set_option linter.unusedSimpArgs false

set_option maxRecDepth 20000 in
set_option maxHeartbeats 4000000 in
theorem sourcesG (l : List Ru) (v : Value) (w : World) (hs : SrcU w v l) (hl : l.length ≤ 64) (hb : ∀ R ∈ l, BdR R ∧ okR R = true) :
    Calls Tryz.prog 104 #[v] w fun e w' => ∃ (v' : Value) (u : List (Nat × Nat)), e = .returned v' ∧ (∀ x, x ∈ u ↔ x ∈ l.map sr) ∧ u.Pairwise ltX ∧ RowX w' w.heap.size v' u ∧ Below w.heap.size w w' := by
  have HS : Hid (SrcU w v l) := hs
  have HBd : Hid (∀ R ∈ l, BdR R ∧ okR R = true) := hb
  obtain ⟨ad, cap, rfl, hcp, _⟩ := hs
  obtain ⟨n, hn⟩ : ∃ n, n = l.length := ⟨_, rfl⟩
  rw [← hn] at HS hl ⊢
  have Hn : Hid (n = l.length) := hn
  clear hn hb hcp
  obtain ⟨i0, hi, hz0, hz1, hz2⟩ := info_parts infoX
  have hmk := fun W => run_make (P := Tryz.prog) W 139 58 i0 _ Tryz.underlying139 hi hz0 .i64 .i64 (n : Int) (n : Int) (by omega) (Int.le_refl _) (by rw [hz2]; omega) (by omega)
  simp only [hz1, Int.toNat_natCast, Value.cells, made_X _ _ rfl] at hmk
  obtain ⟨F, hF⟩ : ∃ F, F = (flatX (List.replicate n (0, 0))).toArray := ⟨_, rfl⟩
  rw [← hF] at hmk
  have HR0 : Hid (RowX (w.alloc (.cells F 58)) w.heap.size (.slice (some ⟨w.heap.size, 0, none⟩) n n) (uptoX (fun k => sr (l.getD k ruZ0)) 0 n)) := by
    rw [uptoX_zero]; exact rowX_new (by rw [← hF]; exact blk_new w _) (Nat.le_refl _) (by omega)
  have HB0 : Hid (Below w.heap.size w (w.alloc (.cells F 58))) := (Below.refl _ _).alloc (Nat.le_refl _) _
  clear hi hz0 hz1 hz2 hF
  have hmk2 := hmk w
  clear hmk
  go_enter Tryz.func104, Tryz.ntmps104
  go_wp2_with (fail)
  generalize w.alloc (.cells F 58) = w1 at *
  clear hmk2
  go_loopw [11] (fun vi wr => ∃ k : Nat, k ≤ n ∧ vi = .int .i64 (k : Int) ∧ Hid (RowX wr w.heap.size (.slice (some ⟨w.heap.size, 0, none⟩) n n) (uptoX (fun k => sr (l.getD k ruZ0)) k n)) ∧ Hid (Below w.heap.size w wr)) (fun vi _ => n - (intOf vi).toNat)
  case atStart => exact ⟨0, Nat.zero_le _, rfl, HR0.out, HB0.out⟩
  case round =>
    obtain ⟨k, hk, rfl, HR, HB⟩ := hrel
    clear HR0 HB0
    by_cases hlt : k < n
    · have hlt' : k < l.length := by rw [← Hn.out]; exact hlt
      have hlti : (k : Int) < (n : Int) := by omega
      obtain ⟨g, off, rfl, hrg⟩ := (rngU HS.out).2 wr HB.out k hlt'
      have hbd := HBd.out _ (List.getElem_mem hlt')
      obtain ⟨p, hp⟩ : ∃ p, p = l[k] := ⟨_, rfl⟩
      rw [← hp] at hrg hbd
      have hgd : l.getD k ruZ0 = p := by rw [hp]; simp [hlt']
      have hq := (okR_sr hbd.2 hbd.1).2.1
      have x0 : wr.cell? ⟨g, off + k * 12, none⟩ = some (.int .i64 p.i) := hrg 0 _ rfl
      have x1 : wr.cell? ⟨g, off + k * 12 + 1, none⟩ = some (.int .u32 (p.s : Int)) := hrg 1 _ rfl
      have x2 : wr.cell? ⟨g, off + k * 12 + 2, none⟩ = some (.int .i64 p.sl) := hrg 2 _ rfl
      have x3 : wr.cell? ⟨g, off + k * 12 + 3, none⟩ = some (.int .u32 (p.d : Int)) := hrg 3 _ rfl
      have x4 : wr.cell? ⟨g, off + k * 12 + 4, none⟩ = some (.int .i64 p.dl) := hrg 4 _ rfl
      have x5 : wr.cell? ⟨g, off + k * 12 + 5, none⟩ = some (.int .u16 (p.p.1 : Int)) := hrg 5 _ rfl
      have x6 : wr.cell? ⟨g, off + k * 12 + 6, none⟩ = some (.int .u16 (p.p.2 : Int)) := hrg 6 _ rfl
      have x7 : wr.cell? ⟨g, off + k * 12 + 7, none⟩ = some (.int .u16 (p.q.1 : Int)) := hrg 7 _ rfl
      have x8 : wr.cell? ⟨g, off + k * 12 + 8, none⟩ = some (.int .u16 (p.q.2 : Int)) := hrg 8 _ rfl
      have x9 : wr.cell? ⟨g, off + k * 12 + 9, none⟩ = some (.int .u8 (p.m.1 : Int)) := hrg 9 _ rfl
      have x10 : wr.cell? ⟨g, off + k * 12 + 10, none⟩ = some (.int .u8 (p.m.2 : Int)) := hrg 10 _ rfl
      have x11 : wr.cell? ⟨g, off + k * 12 + 11, none⟩ = some (.int .i64 p.act) := hrg 11 _ rfl
      obtain ⟨W1, hW1⟩ : ∃ W1, W1 = wr.alloc (.cells #[.int .i64 p.i, .int .u32 (p.s : Int), .int .i64 p.sl, .int .u32 (p.d : Int), .int .i64 p.dl, .int .u16 (p.p.1 : Int), .int .u16 (p.p.2 : Int), .int .u16 (p.q.1 : Int), .int .u16 (p.q.2 : Int), .int .u8 (p.m.1 : Int), .int .u8 (p.m.2 : Int), .int .i64 p.act] 64) := ⟨_, rfl⟩
      have hbW : Below wr.heap.size wr W1 := by rw [hW1]; exact (Below.refl _ _).alloc (Nat.le_refl _) _
      have HR1 : Hid (RowX W1 w.heap.size (.slice (some ⟨w.heap.size, 0, none⟩) n n) (uptoX (fun k => sr (l.getD k ruZ0)) k n)) := HR.out.on hbW
      have HB1 : Hid (Below w.heap.size w W1) := HB.out.trans (hbW.mono HB.out.size)
      have y1 : W1.cell? ⟨wr.heap.size, 1, none⟩ = some (.int .u32 (p.s : Int)) := by rw [hW1]; exact blk_cell (blk_new wr _) rfl
      have y2 : W1.cell? ⟨wr.heap.size, 2, none⟩ = some (.int .i64 p.sl) := by rw [hW1]; exact blk_cell (blk_new wr _) rfl
      have Hset : Hid ((uptoX (fun k => sr (l.getD k ruZ0)) k n).take k ++ [sr p] ++ (uptoX (fun k => sr (l.getD k ruZ0)) k n).drop (k + [sr p].length) = uptoX (fun k => sr (l.getD k ruZ0)) (k + 1) n) := by
        have := uptoX_set (fun k => sr (l.getD k ruZ0)) hlt
        simp only [hgd] at this
        exact this
      have hv : Value.agg #[.int .u32 (p.s : Int), .int .i64 p.sl] = .agg #[.int .u32 ((sr p).1 : Int), .int .i64 ((sr p).2 : Int)] := by rw [← hq]; rfl
      have Hv : Hid _ := hv
      clear hrg hbd hp hgd hq hbW HR HB hv
      subst hW1
      go_wp2_with (refine wpList_storeX rfl (.tmp 20) (.tmp 19) rfl w.heap.size w.heap.size n n _ HR1.out k hlt (sr p) rfl Hv.out ?_; intro w3 hr3 hg3)
      have HR3 : Hid (RowX w3 w.heap.size (.slice (some ⟨w.heap.size, 0, none⟩) n n) (uptoX (fun k => sr (l.getD k ruZ0)) (k + 1) n)) := by rw [Hset.out] at hr3; exact hr3
      have HB3 : Hid (Below w.heap.size w w3) := HB1.out.grown hg3 HB1.out.size (fun q hq => by injection hq with e; omega)
      clear hr3 hg3
      go_roundw
      case rel => exact ⟨k + 1, by omega, by go_num, HR3.out, HB3.out⟩
      case measure => simp [intOf]; omega
    · obtain rfl : k = n := by omega
      have hni : ¬ (k : Int) < (k : Int) := by omega
      have HR' : Hid (RowX wr w.heap.size (.slice (some ⟨w.heap.size, 0, none⟩) k k) (l.map sr)) := by
        have e : uptoX (fun j => sr (l.getD j ruZ0)) k k = l.map sr := by rw [Hn.out]; exact uptoX_all (fun j hj => by simp [hj])
        rw [← e]; exact HR.out
      clear HR
      have hS := sortX (l.map sr) w.heap.size w.heap.size k k wr HR'.out (by omega)
      go_wp2_with (go_at_call 99; fail)
      refine hS.mono ?_
      rintro e w2 ⟨rfl, d, hp, hsd, hr2, hg2⟩
      have hC2 := compX d w.heap.size w.heap.size k k w2 hr2 (by omega)
      have HU : Hid _ := comp_perm (lt := ltX) (fun a h => by unfold ltX at h; omega) (fun a b c h g => by unfold ltX at *; omega) (fun a b h hn => by have : ¬ (a.1 = b.1 ∧ a.2 = b.2) := fun e => hn (Prod.ext e.1 e.2); unfold ltX at *; omega) hp hsd
      have HB2 : Hid (Below w.heap.size w w2) := HB.out.grown hg2 HB.out.size (fun k hk => by injection hk with e; omega)
      clear hr2 hg2 hS HB hp hsd HR'
      go_wp2_with (go_at_call 101; fail)
      refine hC2.mono ?_
      rintro e w3 ⟨n', rfl, hr3, hg3⟩
      have HB3 : Hid (Below w.heap.size w w3) := HB2.out.grown hg3 HB2.out.size (fun k hk => by injection hk with e; omega)
      have HR3 : Hid (RowX w3 w.heap.size (.slice (some ⟨w.heap.size, 0, none⟩) n' k) (compactUpTo d d.size)) := hr3
      clear hr3 hg3 hC2
      go_wp2
      go_ret
      exact ⟨_, _, rfl, HU.out.1, HU.out.2, HR3.out, HB3.out⟩
theorem entS_len (l : List Ru) (N : List Pn) (G : List Lab) (s : Nat × Nat) (k : Nat) : (entS l N G s k).length ≤ k := by
  unfold entS
  rw [List.length_map]
  exact Nat.le_trans (List.length_filter_le _ _) (by simp)
theorem entL_len (l : List Ru) (N : List Pn) (G : List Lab) (S : List (Nat × Nat)) : (entL l N G S).length ≤ S.length * l.length := by
  rw [ent_len_flat]
  exact sumF_bound fun s _ => entS_len l N G s l.length
theorem srs_of {l : List Ru} {u : List (Nat × Nat)} (h : ∀ x, x ∈ u ↔ x ∈ l.map sr) (hp : u.Pairwise ltX) : Srs l u :=
  ⟨List.Pairwise.imp (S := fun a b => a ≠ b) (fun {a b} hab e => by subst e; unfold ltX at hab; omega) hp, h⟩
theorem srs_len {l : List Ru} {u : List (Nat × Nat)} (h : Srs l u) : u.length ≤ l.length := by
  have : u.length ≤ (l.map sr).length := List.Nodup.length_le_of_subset h.1 (fun x hx => (h.2 x).1 hx)
  simpa using this
set_option maxHeartbeats 8000000 in
set_option maxRecDepth 20000 in
theorem entriesC (F : Nat) (nv v : Value) (N : List Pn) (G : List Lab) (l : List Ru) (w : World) (h : Fo w F 0 nv (N.map mk0)) (hs : SrcU w v l) (S : Sow l l.length N G) (ok : OkA l) (hl : l.length ≤ 64) :
    Calls Tryz.prog 94 #[.pointer (some ⟨F, 0, none⟩), v] w fun e w' => ∃ (v' : Value) (u : List (Nat × Nat)), e = .returned v' ∧ Srs l u ∧ RowY w' w.heap.size v' (entL l N G u) ∧ Below w.heap.size w w' := by
  have hC := sourcesG l v w hs hl ok
  have HF : Hid (Fo w F 0 nv (N.map mk0)) := h
  have HS : Hid (SrcU w v l) := hs
  have Hok : Hid (OkA l) := ok
  have HSow : Hid (Sow l l.length N G) := S
  have Hsm : Hid (N.length ≤ 4200) := S.small hl
  obtain ⟨ad, cap, rfl, hcp, _⟩ := hs
  obtain ⟨n, hn⟩ : ∃ n, n = l.length := ⟨_, rfl⟩
  rw [← hn] at HS hl ⊢
  have Hn : Hid (n = l.length) := hn
  rw [← hn] at hC
  obtain ⟨m0, hm0⟩ : ∃ m0, m0 = N.length := ⟨_, rfl⟩
  have Hm0 : Hid (m0 = N.length) := hm0
  obtain ⟨adn, capn, hnv, _, _⟩ := h.nod.form
  rw [len_map0, ← hm0] at hnv
  subst hnv
  have hm0b : (m0 : Int) ≤ 4200 := by have := Hsm.out; omega
  clear hn hcp h ok S hm0
  go_enter Tryz.func94, Tryz.ntmps94
  go_wp2_with (go_at_call 104; fail)
  refine hC.mono ?_
  rintro e w1 ⟨v1, u, rfl, hum, hup, hr1, hb1⟩
  have HU : Hid (Srs l u) := srs_of hum hup
  have HR1 : Hid (SrcX w1 v1 u) := hr1.src
  have HB1 : Hid (Below w.heap.size w w1) := hb1
  have hul : u.length ≤ 64 := by have := srs_len HU.out; have := Hn.out; omega
  obtain ⟨au, cu, rfl, _, _⟩ := hr1.form
  obtain ⟨m, hmm⟩ : ∃ m, m = u.length := ⟨_, rfl⟩
  rw [← hmm] at HR1 hul ⊢
  have Hm : Hid (m = u.length) := hmm
  clear hC hum hup hr1 hb1 hmm
  go_wp2_with (fail)
  go_loopw [5, 15] (fun sv vi wr => ∃ (i : Nat) (vs : Value), i ≤ m ∧ vs = sv ∧ vi = .int .i64 (i : Int) ∧ Hid (RowY wr w1.heap.size vs (entL l N G (u.take i))) ∧ Hid (Below w1.heap.size w1 wr)) (fun _ vi _ => m - (intOf vi).toNat)
  case atStart => exact ⟨0, _, Nat.zero_le _, rfl, rfl, World.ownsRow_nil _ _ _ _, Below.refl _ _⟩
  case round =>
    obtain ⟨i, vs0, hi, rfl, rfl, HR, HB⟩ := hrel
    by_cases hlt : i < m
    · have hlt' : i < u.length := by rw [← Hm.out]; exact hlt
      have hlti : (i : Int) < (m : Int) := by omega
      obtain ⟨g, off, rfl, c0, c1⟩ := (srcX_at HR1.out).2 HB.out i hlt'
      have hst : entL l N G (u.take (i + 1)) = entL l N G (u.take i) ++ entS l N G u[i] l.length := by rw [take_at hlt', entL_snoc]
      have hEl : (entL l N G (u.take i)).length ≤ 4096 := Nat.le_trans (entL_len l N G _) (Nat.le_trans (Nat.mul_le_mul (show (u.take i).length ≤ 64 by rw [List.length_take]; omega) (show l.length ≤ 64 by rw [← Hn.out]; exact hl)) (by decide))
      obtain ⟨p, hp⟩ : ∃ p, p = u[i] := ⟨_, rfl⟩
      rw [← hp] at c0 c1 hst
      have hpo : OkX p := Hok.out.src ((HU.out.2 p).1 (by rw [hp]; exact List.getElem_mem _))
      have hpx := okx_of hpo
      have hpl : p.1 < 4294967296 := hpo.1
      obtain ⟨W1, hW1⟩ : ∃ W1, W1 = wr.alloc (.cells #[.int .u32 (p.1 : Int), .int .i64 (p.2 : Int)] 58) := ⟨_, rfl⟩
      have hbW : Below wr.heap.size wr W1 := by rw [hW1]; exact (Below.refl _ _).alloc (Nat.le_refl _) _
      have HBW : Hid (Below w1.heap.size w1 W1) := HB.out.trans (hbW.mono HB.out.size)
      have HRW : Hid (RowY W1 w1.heap.size vs0 (entL l N G (u.take i))) := HR.out.on hbW
      have HBwW : Hid (Below w.heap.size w W1) := bel_of HB1.out HBW.out HB1.out.size
      have HYb : Hid (W1.heap[wr.heap.size]? = some (.cells #[.int .u32 (p.1 : Int), .int .i64 (p.2 : Int)] 58 (0, 0))) := by rw [hW1]; exact blk_new wr _
      have HNo : Hid (vs0.ownBlock ≠ some wr.heap.size) := fun e => by have := (HR.out.lt _ e).2; omega
      have y0 : W1.cell? ⟨wr.heap.size, 0, none⟩ = some (.int .u32 (p.1 : Int)) := blk_cell HYb.out rfl
      have y1 : W1.cell? ⟨wr.heap.size, 1, none⟩ = some (.int .i64 (p.2 : Int)) := blk_cell HYb.out rfl
      obtain ⟨T, hT⟩ : ∃ T, T = ix G (1, pp p) := ⟨_, rfl⟩
      have hTl : T < N.length := by rw [hT]; exact HSow.out.gw.ix_lt _
      have hBf : Bf N G (pp p) = (nd N T).c := by unfold Bf; rw [← hT]
      have hSk : ∀ x : Kin W1, Calls Tryz.prog 105 #[.pointer (some ⟨F, 0, none⟩), .int .i64 1, .agg #[.int .u32 (p.1), .int .i64 (p.2)]] x.val fun e w' => e = .returned (.int .i64 (T : Int)) ∧ Below x.val.heap.size x.val w' := fun x => by
        have := seekC F _ N G 1 1 p x.val (HF.out.on (bel_of HBwW.out x.is HBwW.out.size)) HSow.out.gw (HSow.out.gw.ix_of HSow.out.gw.r1) hpx (by have := Hsm.out; omega)
        rw [← hT] at this
        exact this
      have f0 := (HF.out.on HBwW.out).c0
      obtain ⟨gn, capn', en, _, _, _, cn, _, _, hxq⟩ := (HF.out.on HBwW.out).nod.cells (map_at0 (nd_some hTl))
      rw [len_map0, ← Hm0.out] at en
      cases en
      simp only [mk0] at cn
      rw [← hBf] at cn
      have hTi : (T : Int) < (m0 : Int) := by have := Hm0.out; omega
      have hFl : F < W1.heap.size := World.block_lt_of_cell? W1 _ f0
      have hgl : gn < W1.heap.size := World.block_lt_of_cell? W1 _ cn
      have hyl : wr.heap.size < W1.heap.size := World.block_lt_of_cell? W1 _ y0
      obtain ⟨b, hb⟩ : ∃ b, b = Bf N G (pp p) := ⟨_, rfl⟩
      rw [← hb] at cn
      have Hb : Hid (b = Bf N G (pp p)) := hb
      have HbI : Hid (ix G (b, []) = b) := by
        show ix G (b, []) = b
        by_cases e : b = 0
        · rw [e]; exact HSow.out.gw.ix_zero _
        · exact HSow.out.gw.ix_of (by rw [hb] at e ⊢; exact HSow.out.bk.root _ e)
      have Hst : Hid _ := hst
      have hW1s : wr.alloc (.cells #[.int .u32 (p.1 : Int), .int .i64 (p.2 : Int)] 58) = W1 := hW1.symm
      have HEl : Hid ((entL l N G (u.take i)).length ≤ 4096) := hEl
      clear hxq hst hp hbW hW1 HB HR hT hBf hTl hb hEl hpx
      go_upto_region 5 with (fail)
      try simp only [hW1s]
      clear c0 c1 hW1s
      have kne : Nonempty (Kin (W1)) := ⟨⟨_, Below.refl _ _⟩⟩
      have kc0 : ∀ y : Kin (W1), y.val.cell? ⟨F, 0, none⟩ = some (.slice (some ⟨gn, 0, none⟩) m0 capn) := fun y => by rw [kin_cell (by first | omega | (simp <;> omega))]; first | assumption | (simp [go_sem]; done) | simp [go_sem, *]
      have kc1 : ∀ y : Kin (W1), y.val.cell? ⟨gn, T * 4 + 2, none⟩ = some (.int .i64 (b : Int)) := fun y => by rw [kin_cell (by first | omega | (simp <;> omega))]; first | assumption | (simp [go_sem]; done) | simp [go_sem, *]
      have kc2 : ∀ y : Kin (W1), y.val.cell? ⟨wr.heap.size, 0, none⟩ = some (.int .u32 (p.1 : Int)) := fun y => by rw [kin_cell (by first | omega | (simp <;> omega))]; first | assumption | (simp [go_sem]; done) | simp [go_sem, *]
      have kc3 : ∀ y : Kin (W1), y.val.cell? ⟨wr.heap.size, 1, none⟩ = some (.int .i64 (p.2 : Int)) := fun y => by rw [kin_cell (by first | omega | (simp <;> omega))]; first | assumption | (simp [go_sem]; done) | simp [go_sem, *]
      refine wp_region_kin (W1) (Below.refl _ _) (by kernel_rfl) (by kernel_rfl) ?_
      repeat (go_big_quiet_step (first | (go_at_call 105; exact kin_call (hSk _))))
      refine wpQuiet_nil ?_
      rintro wq ⟨⟨xq, hxq⟩, hyq⟩
      have hq : Below (W1).heap.size (W1) wq := by rw [hyq]; exact hxq
      clear hyq hxq xq
      clear kne kc0 kc1 kc2 kc3
      obtain ⟨hcq, hfq⟩ := bcell hq
      have hzq := hq.size
      try simp at hzq
      generalize wq = w4 at *
      have HR4 : Hid (RowY w4 w1.heap.size vs0 (entL l N G (u.take i) ++ entS l N G p 0)) := by rw [show entS l N G p 0 = [] from rfl, List.append_nil]; exact HRW.out.on hq
      have HB4 : Hid (Below w1.heap.size w1 w4) := bel_of HBW.out hq HBW.out.size
      have HY4 : Hid (w4.heap[wr.heap.size]? = some (.cells #[.int .u32 (p.1 : Int), .int .i64 (p.2 : Int)] 58 (0, 0))) := blk_on HYb.out hq
      clear hq hcq hfq hzq hSk y0 y1 cn f0 HRW HBW HYb HBwW hFl hgl hyl
      generalize wr.heap.size = BB at *
      go_wp2_with (fail)
      go_loopw [5, 31] (fun sv vj wr => ∃ (j : Nat) (vs : Value), j ≤ n ∧ vs = sv ∧ vj = .int .i64 (j : Int) ∧ Hid (RowY wr w1.heap.size vs (entL l N G (u.take i) ++ entS l N G p j)) ∧ Hid (Below w1.heap.size w1 wr) ∧ Hid (wr.heap[BB]? = some (.cells #[.int .u32 (p.1 : Int), .int .i64 (p.2 : Int)] 58 (0, 0))) ∧ Hid (vs.ownBlock ≠ some BB)) (fun _ vj _ => n - (intOf vj).toNat)
      case atStart => exact ⟨0, _, Nat.zero_le _, rfl, rfl, HR4, HB4, HY4, HNo⟩
      case round =>
        obtain ⟨j, vs, hj, rfl, rfl, HRj, HBj, HYj, HNj⟩ := hrel
        by_cases hltj : j < n
        · have hltj' : j < l.length := by rw [← Hn.out]; exact hltj
          have hltji : (j : Int) < (n : Int) := by omega
          have HBwq : Hid (Below w.heap.size w wr) := bel_of HB1.out HBj.out HB1.out.size
          obtain ⟨g2, off2, rfl, hrg⟩ := (rngU HS.out).2 wr HBwq.out j hltj'
          have hbd := Hok.out _ (List.getElem_mem hltj')
          have hRu : ruAt l j = l[j] := ruAt_at hltj'
          have hst := entS_step l N G p j
          obtain ⟨p', hp'⟩ : ∃ p', p' = l[j] := ⟨_, rfl⟩
          rw [← hp'] at hrg hbd hRu
          obtain ⟨hox, hq1, hoy, hq2⟩ := okR_sr hbd.2 hbd.1
          obtain ⟨dd, hdd⟩ : ∃ dd, dd = ds p' := ⟨_, rfl⟩
          rw [← hdd] at hoy
          have x0 : wr.cell? ⟨g2, off2 + j * 12, none⟩ = some (.int .i64 p'.i) := hrg 0 _ rfl
          have x1 : wr.cell? ⟨g2, off2 + j * 12 + 1, none⟩ = some (.int .u32 (p'.s : Int)) := hrg 1 _ rfl
          have x2 : wr.cell? ⟨g2, off2 + j * 12 + 2, none⟩ = some (.int .i64 p'.sl) := hrg 2 _ rfl
          have x3 : wr.cell? ⟨g2, off2 + j * 12 + 3, none⟩ = some (.int .u32 (dd.1 : Int)) := by rw [hdd]; exact hrg 3 _ rfl
          have x4 : wr.cell? ⟨g2, off2 + j * 12 + 4, none⟩ = some (.int .i64 (dd.2 : Int)) := by rw [hdd, ← hq2]; exact hrg 4 _ rfl
          have x5 : wr.cell? ⟨g2, off2 + j * 12 + 5, none⟩ = some (.int .u16 (p'.p.1 : Int)) := hrg 5 _ rfl
          have x6 : wr.cell? ⟨g2, off2 + j * 12 + 6, none⟩ = some (.int .u16 (p'.p.2 : Int)) := hrg 6 _ rfl
          have x7 : wr.cell? ⟨g2, off2 + j * 12 + 7, none⟩ = some (.int .u16 (p'.q.1 : Int)) := hrg 7 _ rfl
          have x8 : wr.cell? ⟨g2, off2 + j * 12 + 8, none⟩ = some (.int .u16 (p'.q.2 : Int)) := hrg 8 _ rfl
          have x9 : wr.cell? ⟨g2, off2 + j * 12 + 9, none⟩ = some (.int .u8 (p'.m.1 : Int)) := hrg 9 _ rfl
          have x10 : wr.cell? ⟨g2, off2 + j * 12 + 10, none⟩ = some (.int .u8 (p'.m.2 : Int)) := hrg 10 _ rfl
          have x11 : wr.cell? ⟨g2, off2 + j * 12 + 11, none⟩ = some (.int .i64 p'.act) := hrg 11 _ rfl
          have hEc : entC l N G p j = ix G (b, pp dd) := by unfold entC; rw [hRu, ← hdd, ← Hb.out]
          obtain ⟨T2, hT2⟩ : ∃ T2, T2 = ix G (b, pp dd) := ⟨_, rfl⟩
          have hEp : entP l N G p j = (decide (T2 ≠ 0) && witX p (sr p')) := by unfold entP; rw [hEc, ← hT2, hRu]
          rw [hEc, ← hT2, hEp] at hst
          have hW := fun W => withinX p (sr p') W hpl hbd.1.1
          have hqs : (sr p').1 = p'.s := rfl
          rw [hqs, ← hq1] at hW
          have Hst2 : Hid _ := hst
          obtain ⟨W2, hW2⟩ : ∃ W2, W2 = wr.alloc (.cells #[.int .i64 p'.i, .int .u32 (p'.s : Int), .int .i64 p'.sl, .int .u32 (dd.1 : Int), .int .i64 (dd.2 : Int), .int .u16 (p'.p.1 : Int), .int .u16 (p'.p.2 : Int), .int .u16 (p'.q.1 : Int), .int .u16 (p'.q.2 : Int), .int .u8 (p'.m.1 : Int), .int .u8 (p'.m.2 : Int), .int .i64 p'.act] 64) := ⟨_, rfl⟩
          have hbW2 : Below wr.heap.size wr W2 := by rw [hW2]; exact (Below.refl _ _).alloc (Nat.le_refl _) _
          have HB2 : Hid (Below w1.heap.size w1 W2) := HBj.out.trans (hbW2.mono HBj.out.size)
          have HR2 : Hid (RowY W2 w1.heap.size vs (entL l N G (u.take i) ++ entS l N G p j)) := HRj.out.on hbW2
          have HY2 : Hid (W2.heap[BB]? = some (.cells #[.int .u32 (p.1 : Int), .int .i64 (p.2 : Int)] 58 (0, 0))) := blk_on HYj.out hbW2
          have HX2 : Hid (W2.heap[wr.heap.size]? = some (.cells #[.int .i64 p'.i, .int .u32 (p'.s : Int), .int .i64 p'.sl, .int .u32 (dd.1 : Int), .int .i64 (dd.2 : Int), .int .u16 (p'.p.1 : Int), .int .u16 (p'.p.2 : Int), .int .u16 (p'.q.1 : Int), .int .u16 (p'.q.2 : Int), .int .u8 (p'.m.1 : Int), .int .u8 (p'.m.2 : Int), .int .i64 p'.act] 64 (0, 0))) := by rw [hW2]; exact blk_new wr _
          have HBw2 : Hid (Below w.heap.size w W2) := bel_of HB1.out HB2.out HB1.out.size
          have hS2 := seekC F _ N G b b dd W2 (HF.out.on HBw2.out) HSow.out.gw HbI.out (okx_of hoy) (by have := Hsm.out; omega)
          rw [← hT2] at hS2
          have z3 : W2.cell? ⟨wr.heap.size, 3, none⟩ = some (.int .u32 (dd.1 : Int)) := blk_cell HX2.out rfl
          have z4 : W2.cell? ⟨wr.heap.size, 4, none⟩ = some (.int .i64 (dd.2 : Int)) := blk_cell HX2.out rfl
          have hT2b : T2 < 4200 := by have := HSow.out.gw.ix_lt (b, pp dd); rw [hT2]; have := Hsm.out; omega
          have HLen : Hid ((entL l N G (u.take i) ++ entS l N G p j).length ≤ 4160) := by show _ ≤ _; rw [List.length_append]; have := HEl.out; have := entS_len l N G p j; omega
          have Hno : Hid (T2 = 0 ∨ witX p (sr p') = false → entL l N G (u.take i) ++ entS l N G p (j + 1) = entL l N G (u.take i) ++ entS l N G p j) := fun e => by
            have := Hst2.out
            rcases e with e | e
            · rw [e] at this; simp at this; rw [this]
            · rw [e] at this; simp at this; rw [this]
          have Hye : Hid (T2 ≠ 0 → witX p (sr p') = true → entL l N G (u.take i) ++ entS l N G p (j + 1) = (entL l N G (u.take i) ++ entS l N G p j) ++ [(T2, j)]) := fun e1 e2 => by
            have := Hst2.out
            rw [e2, decide_eq_true e1] at this
            simp at this; rw [this, List.append_assoc]
          clear Hst2 hst hrg hbd hp' hRu hq1 hq2 hox hoy hdd hEc hEp hT2 hqs hbW2 HBj HRj HYj HBwq
          subst hW2
          go_wp2_with (go_at_call 105; fail)
          refine hS2.mono ?_
          rintro e w5 ⟨rfl, hb5⟩
          have HB5 : Hid (Below w1.heap.size w1 w5) := bel_of HB2.out hb5 HB2.out.size
          have HR5 : Hid (RowY w5 w1.heap.size vs (entL l N G (u.take i) ++ entS l N G p j)) := HR2.out.on hb5
          have HY5 : Hid (w5.heap[BB]? = some (.cells #[.int .u32 (p.1 : Int), .int .i64 (p.2 : Int)] 58 (0, 0))) := blk_on HY2.out hb5
          have HX5 : Hid (w5.heap[wr.heap.size]? = some (.cells #[.int .i64 p'.i, .int .u32 (p'.s : Int), .int .i64 p'.sl, .int .u32 (dd.1 : Int), .int .i64 (dd.2 : Int), .int .u16 (p'.p.1 : Int), .int .u16 (p'.p.2 : Int), .int .u16 (p'.q.1 : Int), .int .u16 (p'.q.2 : Int), .int .u8 (p'.m.1 : Int), .int .u8 (p'.m.2 : Int), .int .i64 p'.act] 64 (0, 0))) := blk_on HX2.out hb5
          clear hb5 hS2 HB2 HR2 HY2 HX2 HBw2 z3 z4 x0 x1 x2 x3 x4 x5 x6 x7 x8 x9 x10 x11
          generalize wr.heap.size = BR at *
          by_cases e0 : T2 = 0
          · have hn0 : ((T2 : Int) != 0) = false := by rw [e0]; rfl
            have HR6 : Hid (RowY w5 w1.heap.size vs (entL l N G (u.take i) ++ entS l N G p (j + 1))) := by rw [Hno.out (.inl e0)]; exact HR5.out
            clear Hno Hye e0
            go_wp2_with (fail)
            go_roundw
            case rel => exact ⟨j + 1, vs, by omega, rfl, by go_num, HR6, HB5, HY5, HNj⟩
            case measure => simp [intOf]; omega
          · have hn0 : ((T2 : Int) != 0) = true := by simpa using e0
            have y0 : w5.cell? ⟨BB, 0, none⟩ = some (.int .u32 (p.1 : Int)) := blk_cell HY5.out rfl
            have y1 : w5.cell? ⟨BB, 1, none⟩ = some (.int .i64 (p.2 : Int)) := blk_cell HY5.out rfl
            have y2 : w5.cell? ⟨BR, 1, none⟩ = some (.int .u32 (p'.s : Int)) := blk_cell HX5.out rfl
            have y3 : w5.cell? ⟨BR, 2, none⟩ = some (.int .i64 p'.sl) := blk_cell HX5.out rfl
            cases hwi : witX p (sr p') with
            | false =>
              rw [hwi] at hW
              have Hn2 : Hid (entL l N G (u.take i) ++ entS l N G p (j + 1) = entL l N G (u.take i) ++ entS l N G p j) := Hno.out (.inr hwi)
              clear Hno Hye e0 hwi
              go_wp2_with (go_at_call 91; refine (hW _).mono ?_; rintro e w6 ⟨rfl, hb6⟩)
              have HB6 : Hid (Below w1.heap.size w1 w6) := bel_of HB5.out (by assumption) HB5.out.size
              have HR6 : Hid (RowY w6 w1.heap.size vs (entL l N G (u.take i) ++ entS l N G p (j + 1))) := by rw [Hn2.out]; exact HR5.out.on (by assumption)
              have HY6 : Hid (w6.heap[BB]? = some (.cells #[.int .u32 (p.1 : Int), .int .i64 (p.2 : Int)] 58 (0, 0))) := blk_on HY5.out (by assumption)
              go_roundw
              case rel => exact ⟨j + 1, vs, by omega, rfl, by go_num, HR6, HB6, HY6, HNj⟩
              case measure => simp [intOf]; omega
            | true =>
              rw [hwi] at hW
              have Hn2 : Hid (entL l N G (u.take i) ++ entS l N G p (j + 1) = (entL l N G (u.take i) ++ entS l N G p j) ++ [(T2, j)]) := Hye.out e0 hwi
              clear Hno Hye e0 hwi
              go_wp2_with (go_at_call 91; fail)
              refine (hW _).mono ?_
              rintro e w6 ⟨rfl, hb6⟩
              have HB6 : Hid (Below w1.heap.size w1 (w6.alloc (.cells #[.int .i64 (T2 : Int), .int .i64 (j : Int)] 161))) := (bel_of HB5.out hb6 HB5.out.size).alloc (Nat.le_trans HB5.out.size hb6.size) _
              have HR6 : Hid (RowY (w6.alloc (.cells #[.int .i64 (T2 : Int), .int .i64 (j : Int)] 161)) w1.heap.size vs (entL l N G (u.take i) ++ entS l N G p j)) := (HR5.out.on hb6).alloc _
              have HY6 : Hid ((w6.alloc (.cells #[.int .i64 (T2 : Int), .int .i64 (j : Int)] 161)).heap[BB]? = some (.cells #[.int .u32 (p.1 : Int), .int .i64 (p.2 : Int)] 58 (0, 0))) := blk_alloc (blk_on HY5.out hb6) _
              have Hone : Hid (SrcY (w6.alloc (.cells #[.int .i64 (T2 : Int), .int .i64 (j : Int)] 161)) (.slice (some ⟨w6.heap.size, 0, none⟩) 1 1) [(T2, j)]) := (RowY.one w6 0 (T2, j) (Nat.zero_le _)).src
              have hsz6 : BB < w6.heap.size := Nat.lt_of_lt_of_le (blk_lt HY5.out) hb6.size
              clear hb6 hW HX5 HB5 HR5 HY5 y0 y1 y2 y3
              go_wp2_with (first | (at_builtin; refine wpList_appendSY rfl (.tmp 49) (.tmp 53) rfl w1.heap.size vs _ rfl HR6.out _ [(T2, j)] rfl Hone.out (by have := HB6.out.size; exact this) (by have := HLen.out; simp; simp at this; omega) ?_; intro v7 w7 hr7 hg7 hat7))
              have HR7 : Hid (RowY w7 w1.heap.size v7 (entL l N G (u.take i) ++ entS l N G p (j + 1))) := by rw [Hn2.out]; exact hr7
              have HB7 : Hid (Below w1.heap.size w1 w7) := HB6.out.grown hg7 HB6.out.size (fun q hq => (HR6.out.lt q hq).1)
              have HY7 : Hid (w7.heap[BB]? = some (.cells #[.int .u32 (p.1 : Int), .int .i64 (p.2 : Int)] 58 (0, 0))) := (hg7.block BB (blk_lt HY6.out) (fun e => HNj.out e.symm)).trans HY6.out
              have HN7 : Hid (v7.ownBlock ≠ some BB) := by
                show v7.ownBlock ≠ some BB
                rcases hat7 with a | a
                · rw [a]; exact HNj.out
                · rw [a]; simp; omega
              clear hr7 hg7 hat7
              go_roundw
              case rel => exact ⟨j + 1, v7, by omega, rfl, by go_num, HR7, HB7, HY7, HN7⟩
              case measure => simp [intOf]; omega
        · obtain rfl : j = n := by omega
          have hnj : ¬ (j : Int) < (j : Int) := by omega
          have HR9 : Hid (RowY wr w1.heap.size vs (entL l N G (u.take (i + 1)))) := by rw [Hst.out, ← Hn.out]; exact HRj.out
          go_wp2_with (fail)
          go_roundw
          case rel => exact ⟨i + 1, vs, by omega, rfl, by go_num, HR9, HBj⟩
          case measure => simp [intOf]; omega
    · obtain rfl : i = m := by omega
      have hni : ¬ (i : Int) < (i : Int) := by omega
      have HR9 : Hid (RowY wr w.heap.size vs0 (entL l N G u)) := by
        have := HR.out
        rw [Hm.out, List.take_length] at this
        exact this.base HB1.out.size
      clear HR
      go_wp2_with (fail)
      go_ret
      exact ⟨_, rfl, u, HU.out, HR9.out, bel_of HB1.out HB.out HB1.out.size⟩
end Go.Proofs.YtgidohnikggjfaaGreat
/-
  Lists cut out of one long list: what fill does, as plain lists; the long list in memory.
-/
namespace Go.Proofs.YtgidohnikggjfaaGreat
open Go.RowKit
set_option linter.unusedVariables false
set_option linter.unusedSimpArgs false

theorem lst_step {E : List (Nat × Nat)} {i : Nat} (hi : i < E.length) (k : Nat) : lstF (E.take (i + 1)) k = if E[i].1 = k then lstF (E.take i) k ++ [E[i].2] else lstF (E.take i) k := by
  unfold lstF
  rw [take_at hi, List.filter_append, List.map_append]
  by_cases e : E[i].1 = k <;> simp [e]
theorem lst_le (E : List (Nat × Nat)) (i k : Nat) : (lstF (E.take i) k).length ≤ (lstF E k).length := by
  unfold lstF
  rw [List.length_map, List.length_map]
  exact ((List.take_sublist i E).filter _).length_le
theorem lst_lt {E : List (Nat × Nat)} {i : Nat} (hi : i < E.length) : (lstF (E.take i) E[i].1).length < (lstF E E[i].1).length := by
  have h := lst_step hi E[i].1
  rw [if_pos rfl] at h
  have h2 := lst_le E (i + 1) E[i].1
  rw [h, List.length_append] at h2
  simp at h2
  omega
theorem lst_tot (E : List (Nat × Nat)) (k : Nat) : (lstF E k).length ≤ E.length := by
  unfold lstF; rw [List.length_map]; exact List.length_filter_le _ _
theorem lst_none (k : Nat) (E : List (Nat × Nat)) : lstF (E.take 0) k = [] := by simp [lstF]
/-- How many stand in each list so far. -/
def cntI (E : List (Nat × Nat)) (n i : Nat) : List Int := (List.range n).map fun k => ((lstF (E.take i) k).length : Int)
theorem cntI_len (E : List (Nat × Nat)) (n i : Nat) : (cntI E n i).length = n := by simp [cntI]
theorem cntI_at {E : List (Nat × Nat)} {n i k : Nat} (h : k < (cntI E n i).length) : (cntI E n i)[k] = ((lstF (E.take i) k).length : Int) := by simp [cntI]
theorem cntI_zero (E : List (Nat × Nat)) (n : Nat) : cntI E n 0 = List.replicate n 0 := by
  apply List.ext_getElem
  · simp [cntI]
  · intro k h1 h2; simp [cntI, lstF]
theorem cntI_step {E : List (Nat × Nat)} {n i : Nat} (hi : i < E.length) : (cntI E n i).set E[i].1 ((lstF (E.take i) E[i].1).length + 1 : Int) = cntI E n (i + 1) := by
  apply List.ext_getElem
  · simp [cntI]
  · intro k h1 h2
    rw [List.getElem_set]
    simp only [cntI, List.getElem_map, List.getElem_range]
    rw [lst_step hi]
    by_cases e : E[i].1 = k
    · rw [if_pos e, if_pos e, List.length_append, e]; rfl
    · rw [if_neg e, if_neg e]
/-- Where a list's slice points to. -/
def adE (E : List (Nat × Nat)) (k : Nat) : Nat := if (lstF E k).length = 0 then 0 else offE E k
/-- The node k, with its list: i entries are in. -/
def layN (N : List Pn) (E : List (Nat × Nat)) (Lg i k : Nat) : Gn := (mk0 (nd N k)).lay (some ⟨Lg, adE E k, none⟩) (lstF (E.take i) k).length (lstF E k).length
def layL (N : List Pn) (E : List (Nat × Nat)) (Lg i : Nat) : List Gn := (List.range N.length).map (layN N E Lg i)
/-- The first k nodes have their slices. -/
def cutL (N : List Pn) (E : List (Nat × Nat)) (Lg k : Nat) : List Gn := (List.range N.length).map fun j => if j < k then layN N E Lg 0 j else mk0 (nd N j)
theorem layL_len (N : List Pn) (E : List (Nat × Nat)) (Lg i : Nat) : (layL N E Lg i).length = N.length := by simp [layL]
theorem cutL_len (N : List Pn) (E : List (Nat × Nat)) (Lg i : Nat) : (cutL N E Lg i).length = N.length := by simp [cutL]
theorem layL_at {N : List Pn} {E : List (Nat × Nat)} {Lg i k : Nat} (h : k < N.length) : (layL N E Lg i)[k]? = some (layN N E Lg i k) := by simp [layL, h]
theorem cutL_at {N : List Pn} {E : List (Nat × Nat)} {Lg k : Nat} (h : k < N.length) : (cutL N E Lg k)[k]? = some (mk0 (nd N k)) := by simp [cutL, h]
theorem nd_map (N : List Pn) : (List.range N.length).map (nd N) = N := by
  apply List.ext_getElem (by simp)
  intro k h1 h2
  simp [nd, h2]
theorem layL_p (N : List Pn) (E : List (Nat × Nat)) (Lg i : Nat) : (layL N E Lg i).map Gn.p = N := by
  unfold layL
  rw [List.map_map]
  exact nd_map N
theorem cutL_zero (N : List Pn) (E : List (Nat × Nat)) (Lg : Nat) : cutL N E Lg 0 = N.map mk0 := by
  unfold cutL
  have h : ((List.range N.length).map fun j => if j < 0 then layN N E Lg 0 j else mk0 (nd N j)) = ((List.range N.length).map (nd N)).map mk0 := by
    rw [List.map_map]
    exact List.map_congr_left fun j _ => by rw [if_neg (by omega)]; rfl
  rw [h, nd_map]
theorem cutL_all (N : List Pn) (E : List (Nat × Nat)) (Lg : Nat) : cutL N E Lg N.length = layL N E Lg 0 := by
  unfold cutL layL
  exact List.map_congr_left fun j hj => by rw [if_pos (List.mem_range.1 hj)]
theorem cutL_step {N : List Pn} {E : List (Nat × Nat)} {Lg k : Nat} (h : k < N.length) : (cutL N E Lg k).set k ((mk0 (nd N k)).lay (some ⟨Lg, adE E k, none⟩) 0 (lstF E k).length) = cutL N E Lg (k + 1) := by
  apply List.ext_getElem
  · simp [cutL]
  · intro j h1 h2
    rw [List.getElem_set]
    simp only [cutL, List.getElem_map, List.getElem_range]
    by_cases e : k = j
    · subst e
      rw [if_pos rfl, if_pos (by omega)]
      unfold layN
      rw [lst_none]; rfl
    · rw [if_neg e]
      by_cases e2 : j < k
      · rw [if_pos e2, if_pos (by omega)]
      · rw [if_neg e2, if_neg (by omega)]
theorem layL_step {N : List Pn} {E : List (Nat × Nat)} {Lg i : Nat} (hi : i < E.length) : (layL N E Lg i).set E[i].1 ((layN N E Lg i E[i].1).lay (some ⟨Lg, adE E E[i].1, none⟩) ((lstF (E.take i) E[i].1).length + 1) (lstF E E[i].1).length) = layL N E Lg (i + 1) := by
  apply List.ext_getElem
  · simp [layL]
  · intro k h1 h2
    rw [List.getElem_set]
    simp only [layL, List.getElem_map, List.getElem_range]
    unfold layN
    rw [lst_step hi k]
    by_cases e : E[i].1 = k
    · rw [if_pos e, if_pos e, List.length_append, e]; rfl
    · rw [if_neg e, if_neg e]
/-- The long list has what each list has so far. -/
structure Cok (E : List (Nat × Nat)) (i : Nat) (C : List Int) : Prop where
  len : C.length = E.length
  has : ∀ k j p : Nat, (lstF (E.take i) k)[j]? = some p → C[offE E k + j]? = some (p : Int)
theorem Cok.zero {E : List (Nat × Nat)} {C : List Int} (h : C.length = E.length) : Cok E 0 C := ⟨h, fun k j p e => by rw [lst_none] at e; simp at e⟩
theorem off_in {E : List (Nat × Nat)} {k j : Nat} (h : j < (lstF E k).length) : offE E k + j < E.length := by
  have h1 := offE_step E k
  have h2 := offE_le E (k + 1)
  omega
theorem Cok.step {E : List (Nat × Nat)} {i : Nat} {C : List Int} (h : Cok E i C) (hi : i < E.length) : Cok E (i + 1) (C.set (offE E E[i].1 + (lstF (E.take i) E[i].1).length) (E[i].2 : Int)) := by
  refine ⟨by rw [List.length_set]; exact h.len, fun k j p e => ?_⟩
  have hlt := lst_lt hi
  have hin := off_in hlt
  rw [List.getElem?_set]
  have hjk : j < (lstF (E.take (i + 1)) k).length := (List.getElem?_eq_some_iff.1 e).1
  have hjE := Nat.lt_of_lt_of_le hjk (lst_le E (i + 1) k)
  rw [lst_step hi] at e
  by_cases ek : E[i].1 = k
  · subst ek
    rw [if_pos rfl] at e
    by_cases ej : j = (lstF (E.take i) E[i].1).length
    · subst ej
      rw [if_pos rfl, if_pos (by rw [h.len]; exact hin)]
      rw [List.getElem?_append_right (Nat.le_refl _)] at e
      simp at e
      rw [e]
    · rw [if_neg (by omega)]
      have hj2 : j < (lstF (E.take i) E[i].1).length := by
        have := (List.getElem?_eq_some_iff.1 e).1
        rw [List.length_append] at this
        simp at this; omega
      rw [List.getElem?_append_left hj2] at e
      exact h.has _ j p e
  · rw [if_neg ek] at e
    have hne : offE E E[i].1 + (lstF (E.take i) E[i].1).length ≠ offE E k + j := by
      have s1 := offE_step E E[i].1
      have s2 := offE_step E k
      rcases Nat.lt_or_gt_of_ne ek with g | g
      · have := offE_mono E (show E[i].1 + 1 ≤ k by omega); omega
      · have := offE_mono E (show k + 1 ≤ E[i].1 by omega); omega
    rw [if_neg hne]
    exact h.has k j p e
/-- What fill leaves. -/
def Fil (w : World) (lv : Value) (N : List Pn) (L : List Gn) (E : List (Nat × Nat)) : Prop := ∃ (Lg : Nat) (C : List Int), lv = .slice (some ⟨Lg, 0, none⟩) E.length E.length ∧ L = layL N E Lg E.length ∧ RowI w 0 lv C ∧ Cok E E.length C
theorem RowI.stay {w w1 : World} {b : Nat} {v : Value} {l : List Int} (h : RowI w b v l) (hb : ∀ k, v.ownBlock = some k → w1.heap[k]? = w.heap[k]?) : RowI w1 b v l := by
  refine ⟨h.1, ?_⟩
  rcases h.2 with h2 | ⟨g, cap, cur, hv, hg, hh, q⟩
  · exact .inl h2
  · exact .inr ⟨g, cap, cur, hv, hg, by rw [hb g (by rw [hv]; rfl)]; exact hh, q⟩
theorem Fil.src {w : World} {lv : Value} {N : List Pn} {L : List Gn} {E : List (Nat × Nat)} (h : Fil w lv N L E) {k : Nat} {x : Gn} (hx : L[k]? = some x) : SrcI w x.v (ofN (lstF E k)) := by
  obtain ⟨Lg, C, e1, e2, hr, hc⟩ := h
  subst e1 e2
  have hk : k < N.length := by have := pn_lt hx; rwa [layL_len] at this
  rw [layL_at hk] at hx
  cases hx
  refine ⟨some ⟨Lg, adE E k, none⟩, (lstF E k).length, ?_, fun h0 => ⟨Lg, adE E k, rfl, fun j hj => ?_⟩⟩
  · show Value.slice (some ⟨Lg, adE E k, none⟩) (lstF (E.take E.length) k).length (lstF E k).length = _
    rw [List.take_length, ofN_len]
  · rw [ofN_len] at hj h0
    have ha : adE E k = offE E k := if_neg (by omega)
    have hb := hc.has k j (lstF E k)[j] (by rw [List.take_length]; exact List.getElem?_eq_getElem hj)
    have hl := (List.getElem?_eq_some_iff.1 hb)
    obtain ⟨hl1, hl2⟩ := hl
    have := (RowI.cell hr hl1).1
    rw [ha, ofN_at, this, hl2]
theorem made_I (w : World) (n : Nat) (hn : n ≤ 16777216) : RowI (w.alloc (.cells (madeCells #[.int .i64 0] n) 3)) w.heap.size (.slice (some ⟨w.heap.size, 0, none⟩) n n) (List.replicate n 0) := by
  refine ⟨by rw [eI_len]; simp, .inr ⟨w.heap.size, n, _, by simp, Nat.le_refl _, blk_new w _, by simp, by unfold maxLen; omega, by rw [size_madeCells, Nat.mul_one], ?_⟩⟩
  rw [toList_madeCells_one]
  simp [eI]
theorem run_makeI (w : World) (n : Nat) (hn : n ≤ 16777216) : (Instr.makeSlice 74 (.int .i64 (n : Int)) (.int .i64 (n : Int))).run Tryz.prog w = .ok (.slice (some ⟨w.heap.size, 0, none⟩) n n) (w.alloc (.cells (madeCells #[.int .i64 0] n) 3)) := by
  obtain ⟨i0, hi, hz0, hz1, hz2⟩ := info_parts infoI
  have := run_make (P := Tryz.prog) w 74 3 i0 _ Tryz.underlying74 hi hz0 .i64 .i64 (n : Int) (n : Int) (by omega) (Int.le_refl _) (by rw [hz2]; omega) (by omega)
  simp only [hz1, Int.toNat_natCast, Value.cells, Nat.mul_one] at this
  exact this
theorem sizeI (w : World) : (sizeOf 3).run Tryz.prog w = .ok 1 w := by
  obtain ⟨i0, hi, hz0, hz1, hz2⟩ := info_parts infoI
  simp [sizeOf, typeInfo, hi, hz1]
theorem elemI : Tryz.prog.elem 74 = 3 := by kernel_rfl
theorem underI : Tryz.prog.underlying 74 = some (.slice (Tryz.prog.elem 74)) := by rw [elemI]; exact Tryz.underlying74
/-- Three indices. -/
theorem run_cut3 (w : World) (Lg n cap l r : Nat) (x y z : Int) (hx : x = (l : Int)) (hy : y = (l : Int)) (hz : z = ((l + r : Nat) : Int)) (h : l + r ≤ cap) : (Instr.sliceAt 74 (.slice (some ⟨Lg, 0, none⟩) n cap) (some (.int .i64 x)) (some (.int .i64 y)) (some (.int .i64 z))).run Tryz.prog w = .ok (.slice (some ⟨Lg, if r = 0 then 0 else l, none⟩) 0 r) w := by
  subst hx hy hz
  rw [run_sliceAt_slice _ _ _ _ _ _ underI, run_slice_lhm w 74 (some ⟨Lg, 0, none⟩) n cap underI .i64 .i64 .i64 (l : Int) (l : Int) ((l + r : Nat) : Int) (by omega) (by omega) (by omega) (by omega), elemI, sizeI]
  simp only [Result.andThen, sliced, Int.toNat_natCast, Nat.sub_self]
  by_cases e : r = 0
  · subst e; simp
  · rw [if_neg (by omega), if_neg e]
    simp [Addr.add]
    omega
/-- The long list is made. -/
theorem Fs.long {w : World} {F : Nat} {nv lv : Value} {L : List Gn} (h : Fs w F nv lv L) (A : Array Value) (T : Nat) :
    Fs ((w.alloc (.cells A 3)).setCell ⟨F, 1, none⟩ (.slice (some ⟨w.heap.size, 0, none⟩) T T)) F nv (.slice (some ⟨w.heap.size, 0, none⟩) T T) L ∧ Fm w ((w.alloc (.cells A 3)).setCell ⟨F, 1, none⟩ (.slice (some ⟨w.heap.size, 0, none⟩) T T)) F nv lv nv (.slice (some ⟨w.heap.size, 0, none⟩) T T) := by
  have hb : Below w.heap.size w (w.alloc (.cells A 3)) := (Below.refl _ _).alloc (Nat.le_refl _) _
  have ho := only_setCellF (w.alloc (.cells A 3)) F 1 (.slice (some ⟨w.heap.size, 0, none⟩) T T)
  have hF := h.lt
  have hkeep : ∀ k, k < w.heap.size → k ≠ F → ((w.alloc (.cells A 3)).setCell ⟨F, 1, none⟩ (.slice (some ⟨w.heap.size, 0, none⟩) T T)).heap[k]? = w.heap[k]? := fun k hk h1 => by rw [ho.block k h1, hb.block k hk]
  refine ⟨⟨blk_set (blk_on h.blk hb) _, h.nod.stay (fun k e => hkeep k (h.nod.lt k e).2 (fun e' => h.ap1 (by rw [e, e']))), fun k e => ?_, fun k e e' => ?_, h.ap1, fun e => ?_⟩, ⟨rfl, rfl, rfl, by rw [World.size_setCell]; exact hb.size, fun k hk hno => hkeep k hk (fun e => hno (.inl e)), fun k e => ?_⟩⟩
  · have e : w.heap.size = k := Option.some.inj e
    rw [← e, World.size_setCell]; simp
  · have e' : w.heap.size = k := Option.some.inj e'
    have := (h.nod.lt k e).2; omega
  · have e : w.heap.size = F := Option.some.inj e
    omega
  · rcases e with e | e | e
    · exact .inl (.inl e)
    · exact .inl (.inr (.inl e))
    · have e : w.heap.size = k := Option.some.inj e
      exact .inr (by omega)
/-- A cell of the long list is written. -/
theorem Fs.put {w : World} {F Lg a b : Nat} {nv : Value} {L : List Gn} (h : Fs w F nv (.slice (some ⟨Lg, 0, none⟩) a b) L) (j : Nat) (u : Value) :
    Fs (w.setCell ⟨Lg, j, none⟩ u) F nv (.slice (some ⟨Lg, 0, none⟩) a b) L ∧ Fm w (w.setCell ⟨Lg, j, none⟩ u) F nv (.slice (some ⟨Lg, 0, none⟩) a b) nv (.slice (some ⟨Lg, 0, none⟩) a b) := by
  have ho := only_setCellF w Lg j u
  have hL : (Value.slice (some ⟨Lg, 0, none⟩) a b).ownBlock = some Lg := rfl
  refine ⟨⟨(ho.block F (fun e => h.ap2 (by rw [hL, e]))).trans h.blk, h.nod.stay (fun k e => ho.block k (fun e' => h.ap k e (by rw [hL, e']))), fun k e => by rw [World.size_setCell]; exact h.lw k e, h.ap, h.ap1, h.ap2⟩, ⟨rfl, rfl, rfl, by rw [World.size_setCell]; exact Nat.le_refl _, fun k hk hno => ho.block k (fun e => hno (.inr (.inr (by rw [hL, e])))), fun k e => .inl e⟩⟩
/-- 'append' of one number, where there is room. -/
theorem run_appendRoom (w : World) (ty : TypeId) (Lg off n cap g : Nat) (y : Int) (h : n < cap) (hy : w.cell? ⟨g, 0, none⟩ = some (.int .i64 y)) (hc : ∃ z, w.cell? ⟨Lg, off + n, none⟩ = some z) (hf : w.frozen? ⟨Lg, off + n, none⟩ = false) :
    (Builtin.append_ #[74, 74] ty #[.slice (some ⟨Lg, off, none⟩) n cap, .slice (some ⟨g, 0, none⟩) 1 1]).run Tryz.prog w = .ok (.slice (some ⟨Lg, off, none⟩) (n + 1) cap) (w.setCell ⟨Lg, off + n, none⟩ (.int .i64 y)) := by
  obtain ⟨i0, hi, hz0, hz1, hz2⟩ := info_parts infoI
  have hr := run_append_room_cells (P := Tryz.prog) w 74 ty 3 i0 Tryz.underlying74 hi Lg off n cap ⟨g, 0, none⟩ 1 1 [.int .i64 y] (by rw [hz1]; rfl) (fun j u hu => by
    have hj : j = 0 := by have := (List.getElem?_eq_some_iff.1 hu).1; simpa using this
    subst hj
    rw [Addr.add_lit, Nat.zero_add, hy]; simpa using hu) (by simp [Value.oneCell']) (by omega) (fun j hj => by
    have hj : j = 0 := by simpa using hj
    subst hj
    obtain ⟨z, hz⟩ := hc
    rw [hz1, Nat.mul_one, Nat.add_zero, hz]; rfl) (fun j hj => by
    have hj : j = 0 := by simpa using hj
    subst hj
    rw [hz1, Nat.mul_one, Nat.add_zero]; exact hf)
  rw [hr, hz1, Nat.mul_one]
  rfl
theorem wp_appendRoom {o : Oper} {a : Act} {w : World} {K : Act → World → Prop} {Q : Exit → Act → World → Prop} (s x : Operand)
    (ho : o.op = .call { callee := .builtin .append, args := #[s, x], argTypes := #[74, 74] })
    (Lg off n cap g : Nat) (y : Int) (hs : a.eval s = .slice (some ⟨Lg, off, none⟩) n cap) (hx : a.eval x = .slice (some ⟨g, 0, none⟩) 1 1) (h : n < cap) (hy : w.cell? ⟨g, 0, none⟩ = some (.int .i64 y)) (hc : ∃ z, w.cell? ⟨Lg, off + n, none⟩ = some z) (hf : w.frozen? ⟨Lg, off + n, none⟩ = false)
    (hK : K (a.put o.dst (.slice (some ⟨Lg, off, none⟩) (n + 1) cap)) (w.setCell ⟨Lg, off + n, none⟩ (.int .i64 y))) : o.wp Tryz.prog a w K Q := by
  have hr := run_appendRoom w o.type Lg off n cap g y h hy hc hf
  unfold Oper.wp execOp
  simp only [ho, resolve, invoke, builtin, Sem.run_bind, Sem.run_pure, Result.andThen_ok, List.map_toArray, List.map_cons, List.map_nil, hs, hx, hr]
  exact hK
end Go.Proofs.YtgidohnikggjfaaGreat
/-
  grid's fill. Written by tools/mkGdI.py.
-/
namespace Go.Proofs.YtgidohnikggjfaaGreat
open Go.RowKit
set_option linter.unusedVariables false
set_option linter.unusedSimpArgs false

theorem rngY {w : World} {ad : Option Addr} {n cap : Nat} {l : List Ent} (h : SrcY w (.slice ad n cap) l) {k : Nat} (hk : k < l.length) : ∃ g off, ad = some ⟨g, off, none⟩ ∧ w.cell? ⟨g, off + k * 2, none⟩ = some (.int .i64 (l[k].1 : Int)) ∧ w.cell? ⟨g, off + k * 2 + 1, none⟩ = some (.int .i64 (l[k].2 : Int)) := by
  obtain ⟨ad', cap', e, _, h2⟩ := h
  cases e
  obtain ⟨g, off, rfl, h3⟩ := h2 (by omega)
  exact ⟨g, off, rfl, h3 k hk 0 (by decide), h3 k hk 1 (by decide)⟩
set_option maxHeartbeats 8000000 in
set_option maxRecDepth 20000 in
theorem fillC (F : Nat) (nv lv v : Value) (N : List Pn) (E : List Ent) (w : World) (h : Fs w F nv lv (N.map mk0)) (hv : Ky w F nv lv v E) (hE : ∀ e ∈ E, e.1 < N.length ∧ e.2 < 64) (hEl : E.length ≤ 100000) (hN : N.length ≤ 4200) :
    Calls Tryz.prog 93 #[.pointer (some ⟨F, 0, none⟩), v] w fun e w' => e = .returned (.tuple #[]) ∧ ∃ (lv' : Value) (L : List Gn), Fs w' F nv lv' L ∧ Fm w w' F nv lv nv lv' ∧ Fil w' lv' N L E := by
  have HF0 : Hid (Fs w F nv lv (N.map mk0)) := h
  have HV0 : Hid (Ky w F nv lv v E) := hv
  have HE : Hid (∀ e ∈ E, e.1 < N.length ∧ e.2 < 64) := hE
  obtain ⟨n, hn⟩ : ∃ n, n = N.length := ⟨_, rfl⟩
  obtain ⟨m, hm⟩ : ∃ m, m = E.length := ⟨_, rfl⟩
  have Hn : Hid (n = N.length) := hn
  have Hm : Hid (m = E.length) := hm
  obtain ⟨adn, capn, hnv, _, _⟩ := h.nod.form
  rw [len_map0, ← hn] at hnv
  obtain ⟨adv, capv, hvv, _, _⟩ := hv.1
  rw [← hm] at hvv
  subst hnv hvv
  have hnb : (n : Int) ≤ 4200 := by omega
  have hmb : (m : Int) ≤ 100000 := by omega
  have hFl := h.lt
  have hmk := run_makeI w n (by omega)
  have HR0 : Hid (RowI (w.alloc (.cells (madeCells #[.int .i64 0] n) 3)) w.heap.size (.slice (some ⟨w.heap.size, 0, none⟩) n n) (cntI E n 0)) := by rw [cntI_zero]; exact made_I w n (by omega)
  have HB0 : Hid (Below w.heap.size w (w.alloc (.cells (madeCells #[.int .i64 0] n) 3))) := (Below.refl _ _).alloc (Nat.le_refl _) _
  obtain ⟨F0, F1⟩ := blk2 h.blk
  clear h hv hE hn hm
  go_enter Tryz.func93, Tryz.ntmps93
  go_wp2_with (fail)
  generalize w.alloc (.cells (madeCells #[.int .i64 0] n) 3) = w1 at *
  clear hmk F0 F1
  go_loopw [20] (fun vi wr => ∃ i : Nat, i ≤ m ∧ vi = .int .i64 (i : Int) ∧ Hid (RowI wr w.heap.size (.slice (some ⟨w.heap.size, 0, none⟩) n n) (cntI E n i)) ∧ Hid (Below w.heap.size w wr)) (fun vi _ => m - (intOf vi).toNat)
  case atStart => exact ⟨0, Nat.zero_le _, rfl, HR0, HB0⟩
  case round =>
    obtain ⟨i, hi, rfl, HR, HB⟩ := hrel
    clear HR0 HB0
    by_cases hlt : i < m
    · have hlt' : i < E.length := by rw [← Hm.out]; exact hlt
      have hlti : (i : Int) < (m : Int) := by omega
      obtain ⟨gv, ov, rfl, e0, e1⟩ := rngY (HV0.out.1.keep HB.out) hlt'
      have hst := cntI_step (n := n) hlt'
      have hin := HE.out _ (List.getElem_mem hlt')
      have hcb := lst_tot (E.take i) E[i].1
      obtain ⟨nd0, hnd⟩ : ∃ nd0, nd0 = E[i].1 := ⟨_, rfl⟩
      obtain ⟨pl, hpl⟩ : ∃ pl, pl = E[i].2 := ⟨_, rfl⟩
      rw [← hnd] at e0 hst hin hcb
      rw [← hpl] at e1
      have hnn : (nd0 : Int) < (n : Int) := by have := Hn.out; omega
      obtain ⟨W1, hW1⟩ : ∃ W1, W1 = wr.alloc (.cells #[.int .i64 (nd0 : Int), .int .i64 (pl : Int)] 161) := ⟨_, rfl⟩
      have hbW : Below wr.heap.size wr W1 := by rw [hW1]; exact (Below.refl _ _).alloc (Nat.le_refl _) _
      have HRW : Hid (RowI W1 w.heap.size (.slice (some ⟨w.heap.size, 0, none⟩) n n) (cntI E n i)) := HR.out.on hbW
      have y0 : W1.cell? ⟨wr.heap.size, 0, none⟩ = some (.int .i64 (nd0 : Int)) := by rw [hW1]; exact blk_cell (blk_new wr _) rfl
      have hcl := RowI.cell HRW.out (k := nd0) (by rw [cntI_len]; omega)
      rw [cntI_at] at hcl
      obtain ⟨c0, z0⟩ := hcl
      have hset := RowI.set HRW.out nd0 ((lstF (E.take i) nd0).length + 1 : Int)
      rw [hst] at hset
      have hcb2 : (lstF (E.take i) nd0).length ≤ 100000 := by rw [List.length_take] at hcb; have := Hm.out; omega
      have HBW : Hid (Below w.heap.size w W1) := HB.out.trans (hbW.mono HB.out.size)
      generalize (lstF (E.take i) nd0).length = ct at *
      have HR2 : Hid (RowI (W1.setCell ⟨w.heap.size, nd0, none⟩ (.int .i64 ((ct : Int) + 1))) w.heap.size (.slice (some ⟨w.heap.size, 0, none⟩) n n) (cntI E n (i + 1))) := hset.1
      have HB2 : Hid (Below w.heap.size w (W1.setCell ⟨w.heap.size, nd0, none⟩ (.int .i64 ((ct : Int) + 1)))) := HBW.out.grown hset.2 HBW.out.size (fun q hq => by injection hq with e; omega)
      clear hset hst hin hcb hnd hpl hbW HB HR HBW HRW
      subst hW1
      go_wp2_with (fail)
      go_roundw
      case rel => exact ⟨i + 1, by omega, by go_num, HR2, HB2⟩
      case measure => simp [intOf]; omega
    · obtain rfl : i = m := by omega
      have hni : ¬ (i : Int) < (i : Int) := by omega
      have hmk := run_makeI wr i (by omega)
      have HFr : Hid (Fs wr F (.slice adn n capn) lv (N.map mk0)) := HF0.out.on HB.out
      have hlong := HFr.out.long (madeCells #[.int .i64 0] i) i
      have hbA : Below wr.heap.size wr (wr.alloc (.cells (madeCells #[.int .i64 0] i) 3)) := (Below.refl _ _).alloc (Nat.le_refl _) _
      have f1 : (wr.alloc (.cells (madeCells #[.int .i64 0] i) 3)).cell? ⟨F, 1, none⟩ = some lv := blk_cell (blk_on HFr.out.blk hbA) rfl
      have z1 : (wr.alloc (.cells (madeCells #[.int .i64 0] i) 3)).frozen? ⟨F, 1, none⟩ = false := blk_free (blk_on HFr.out.blk hbA) 1
      obtain ⟨Lg, hLg⟩ : ∃ Lg, Lg = wr.heap.size := ⟨_, rfl⟩
      have HF3 : Hid (Fs ((wr.alloc (.cells (madeCells #[.int .i64 0] i) 3)).setCell ⟨F, 1, none⟩ (.slice (some ⟨Lg, 0, none⟩) i i)) F (.slice adn n capn) (.slice (some ⟨Lg, 0, none⟩) i i) (cutL N E Lg 0)) := by rw [cutL_zero, hLg]; exact hlong.1
      have HM3 : Hid (Fm w ((wr.alloc (.cells (madeCells #[.int .i64 0] i) 3)).setCell ⟨F, 1, none⟩ (.slice (some ⟨Lg, 0, none⟩) i i)) F (.slice adn n capn) lv (.slice adn n capn) (.slice (some ⟨Lg, 0, none⟩) i i)) := by rw [hLg]; exact (Fm.of_below HB.out).trans hlong.2
      have hLF : ¬ Lg = F := by have := HB.out.size; omega
      have HRm : Hid (RowI ((wr.alloc (.cells (madeCells #[.int .i64 0] i) 3)).setCell ⟨F, 1, none⟩ (.slice (some ⟨Lg, 0, none⟩) i i)) 0 (.slice (some ⟨Lg, 0, none⟩) i i) (List.replicate i 0)) := by
        rw [hLg]
        refine RowI.stay ((made_I wr i (by omega)).base (Nat.zero_le _)) (fun k e => ?_)
        have e : wr.heap.size = k := Option.some.inj e
        exact (only_setCellF _ F 1 _).block k (by omega)
      have hRlt : w.heap.size < wr.heap.size := (HR.out.lt _ rfl).2
      have HKr : Hid (Ki ((wr.alloc (.cells (madeCells #[.int .i64 0] i) 3)).setCell ⟨F, 1, none⟩ (.slice (some ⟨Lg, 0, none⟩) i i)) F (.slice adn n capn) (.slice (some ⟨Lg, 0, none⟩) i i) (.slice (some ⟨w.heap.size, 0, none⟩) n n) (cntI E n i)) := by
        refine ⟨(RowI.stay (HR.out.on hbA) (fun k e => ?_)).src, fun k e => ?_, fun k e o => ?_⟩
        · have e : w.heap.size = k := Option.some.inj e
          exact (only_setCellF _ F 1 _).block k (by omega)
        · have e : w.heap.size = k := Option.some.inj e
          rw [World.size_setCell]; have := hbA.size; omega
        · have e : w.heap.size = k := Option.some.inj e
          rcases o with o | o | o
          · omega
          · have := (HF0.out.nod.lt k o).2; omega
          · have o : Lg = k := Option.some.inj o
            omega
      have hls : wr.heap.size = Lg := hLg.symm
      clear hlong hbA HFr HR HB hLg hRlt
      go_wp2_with (fail)
      try simp only [hls]
      generalize (wr.alloc (.cells (madeCells #[.int .i64 0] i) 3)).setCell ⟨F, 1, none⟩ (.slice (some ⟨Lg, 0, none⟩) i i) = w3 at *
      clear f1 z1 hmk hls
      go_loopw [7, 40] (fun vo vi wr => ∃ (k o : Nat), k ≤ n ∧ vo = .int .i64 (o : Int) ∧ vi = .int .i64 (k : Int) ∧ Hid (o = offE E k) ∧ Hid (Fs wr F (.slice adn n capn) (.slice (some ⟨Lg, 0, none⟩) i i) (cutL N E Lg k)) ∧ Hid (Fm w3 wr F (.slice adn n capn) (.slice (some ⟨Lg, 0, none⟩) i i) (.slice adn n capn) (.slice (some ⟨Lg, 0, none⟩) i i)) ∧ Hid (RowI wr 0 (.slice (some ⟨Lg, 0, none⟩) i i) (List.replicate i 0))) (fun _ vi _ => n - (intOf vi).toNat)
      case atStart => exact ⟨0, 0, Nat.zero_le _, rfl, rfl, (offE_zero E).symm, HF3, Fm.of_below (Below.refl _ _), HRm⟩
      case round =>
        obtain ⟨k, o, hk, rfl, rfl, HO, HF, HM, HRm2⟩ := hrel
        by_cases hlt2 : k < n
        · have hlt2' : k < N.length := by rw [← Hn.out]; exact hlt2
          have hlt2i : (k : Int) < (n : Int) := by omega
          have hKi := (HKr.out.moved HM.out).1
          obtain ⟨gr, orr, er, cr⟩ := SrcI.at hKi (k := k) (by rw [cntI_len]; exact hlt2)
          cases er
          rw [cntI_at, Nat.zero_add] at cr
          have eL : lstF (E.take i) k = lstF E k := by rw [Hm.out, List.take_length]
          rw [eL] at cr
          obtain ⟨g, cap', en, _, _, _, _, c3, hfz, hxe⟩ := HF.out.nod.cells (cutL_at hlt2')
          rw [cutL_len, ← Hn.out] at en
          cases en
          obtain ⟨q, hq⟩ : ∃ q, q = (lstF E k).length := ⟨_, rfl⟩
          rw [← hq] at cr
          have hos := offE_step E k
          rw [← hq, ← HO.out] at hos
          have hole := offE_le E (k + 1)
          have hoq : o + q ≤ i := by have := Hm.out; omega
          have hwrap : IntKind.i64.wrap ((o : Int) + (q : Int)) = (o : Int) + (q : Int) := by have := wrap64_nat' (n := o + q) (by omega); simpa using this
          obtain ⟨ae, hae⟩ : ∃ ae, ae = adE E k := ⟨_, rfl⟩
          have hcut : ∀ w : World, (Instr.sliceAt 74 (.slice (some ⟨Lg, 0, none⟩) i i) (some (.int .i64 (o : Int))) (some (.int .i64 (o : Int))) (some (.int .i64 ((o : Int) + (q : Int))))).run Tryz.prog w = .ok (.slice (some ⟨Lg, ae, none⟩) 0 q) w := fun w => by
            have := run_cut3 w Lg i i o q (o : Int) (o : Int) ((o : Int) + (q : Int)) rfl rfl (by simp) hoq
            rw [this, hae]
            unfold adE
            rw [← hq, HO.out]
          have hFd := HF.out.on (Below.refl wr.heap.size wr).drew
          have hMd := HM.out.trans (Fm.of_below (Below.refl wr.heap.size wr).drew)
          have hRd : RowI wr.drew 0 (.slice (some ⟨Lg, 0, none⟩) i i) (List.replicate i 0) := HRm2.out.on (Below.refl wr.heap.size wr).drew
          have hset := hFd.cell k 3 (by rw [cutL_len]; exact hlt2') (by decide) ((mk0 (nd N k)).lay (some ⟨Lg, ae, none⟩) 0 q) (.slice (some ⟨Lg, ae, none⟩) 0 q) (by rw [← hxe]; exact enc_lay _ _ _ _)
          rw [hae, hq, cutL_step hlt2', ← hq, ← hae] at hset
          have hgL : ¬ g = Lg := fun e => HF.out.ap g rfl (by rw [e]; rfl)
          have hgF : ¬ g = F := fun e => HF.out.ap1 (by rw [← e]; rfl)
          have q01 : wr.drew.cell? ⟨F, 0, none⟩ = some (.slice (some ⟨g, 0, none⟩) n capn) ∧ wr.drew.cell? ⟨F, 1, none⟩ = some (.slice (some ⟨Lg, 0, none⟩) i i) := ⟨(blk2 hFd.blk).1, (blk2 hFd.blk).2⟩
          have q02 : (wr.drew.setCell ⟨g, k * 4 + 3, none⟩ (.slice (some ⟨Lg, ae, none⟩) 0 q)).cell? ⟨F, 0, none⟩ = some (.slice (some ⟨g, 0, none⟩) n capn) ∧ (wr.drew.setCell ⟨g, k * 4 + 3, none⟩ (.slice (some ⟨Lg, ae, none⟩) 0 q)).cell? ⟨F, 1, none⟩ = some (.slice (some ⟨Lg, 0, none⟩) i i) := ⟨(blk2 hset.1.blk).1, (blk2 hset.1.blk).2⟩
          have c3d : wr.drew.cell? ⟨g, k * 4 + 3, none⟩ = some (.slice none 0 0) := c3
          have z3d : wr.drew.frozen? ⟨g, k * 4 + 3, none⟩ = false := hfz (k * 4 + 3)
          have HF5 : Hid (Fs (wr.drew.setCell ⟨g, k * 4 + 3, none⟩ (.slice (some ⟨Lg, ae, none⟩) 0 q)) F (.slice (some ⟨g, 0, none⟩) n capn) (.slice (some ⟨Lg, 0, none⟩) i i) (cutL N E Lg (k + 1))) := hset.1
          have HM5 : Hid (Fm w3 (wr.drew.setCell ⟨g, k * 4 + 3, none⟩ (.slice (some ⟨Lg, ae, none⟩) 0 q)) F (.slice (some ⟨g, 0, none⟩) n capn) (.slice (some ⟨Lg, 0, none⟩) i i) (.slice (some ⟨g, 0, none⟩) n capn) (.slice (some ⟨Lg, 0, none⟩) i i)) := hMd.trans hset.2
          have HR5 : Hid (RowI (wr.drew.setCell ⟨g, k * 4 + 3, none⟩ (.slice (some ⟨Lg, ae, none⟩) 0 q)) 0 (.slice (some ⟨Lg, 0, none⟩) i i) (List.replicate i 0)) := RowI.stay hRd (fun j e => by
            have e : Lg = j := Option.some.inj e
            exact (only_setCellF _ g _ _).block j (by omega))
          have HO5 : Hid (o + q = offE E (k + 1)) := hos.symm
          have hq1 : (o : Int) + (q : Int) ≤ 100000 := by omega
          clear hset hfz hxe hq hos hole hFd hMd hRd hKi eL hae HF HM HRm2 HO c3
          go_upto_region 11 with (fail)
          refine wp_region_held_drew (S := fun w' => w'.cell? ⟨F, 0, none⟩ = some (.slice (some ⟨g, 0, none⟩) n capn) ∧ w'.cell? ⟨F, 1, none⟩ = some (.slice (some ⟨Lg, 0, none⟩) i i)) (by kernel_rfl) q01 (fun hS0 => ?_)
          show wpAnyH _ _ _ _ _ 18 _ _ _
          refine wpAnyH_take (i := 0) (v := .pointer (some ⟨F, 0, none⟩)) rfl (by kernel_rfl) (by kernel_rfl) (by kernel_rfl) (fun _ _ _ h => h) (.inl ⟨rfl, fun _ _ => by simp [execOp, go_sem]⟩) hS0 ?_
          simp only [List.getElem_toArray, List.getElem_cons_succ, List.getElem_cons_zero, Act.put, List.setIfInBounds_toArray, List.set_cons_zero, List.set_cons_succ]
          refine wpAnyH_take (i := 1) (v := .pointer (some ⟨F, 0, none⟩)) rfl (by kernel_rfl) (by kernel_rfl) (by kernel_rfl) (fun _ _ _ h => h) (.inl ⟨rfl, fun _ _ => by simp [execOp, go_sem]⟩) hS0 ?_
          simp only [List.getElem_toArray, List.getElem_cons_succ, List.getElem_cons_zero, Act.put, List.setIfInBounds_toArray, List.set_cons_zero, List.set_cons_succ]
          refine wpAnyH_take (i := 2) (v := .pointer (some ⟨F, 0, none⟩)) rfl (by kernel_rfl) (by kernel_rfl) (by kernel_rfl) (fun _ _ _ h => h) (.inl ⟨rfl, fun _ _ => by simp [execOp, go_sem]⟩) hS0 ?_
          simp only [List.getElem_toArray, List.getElem_cons_succ, List.getElem_cons_zero, Act.put, List.setIfInBounds_toArray, List.set_cons_zero, List.set_cons_succ]
          refine wpAnyH_take (i := 3) (v := (.slice (some ⟨g, 0, none⟩) n capn)) rfl (by kernel_rfl) (by kernel_rfl) (by kernel_rfl) (fun _ _ _ h => h) (.inl ⟨rfl, fun w' hw' => by have hcc := hw'.1; simp [execOp, go_sem, hcc]⟩) hS0 ?_
          simp only [List.getElem_toArray, List.getElem_cons_succ, List.getElem_cons_zero, Act.put, List.setIfInBounds_toArray, List.set_cons_zero, List.set_cons_succ]
          refine wpAnyH_take (i := 4) (v := .int .i64 (k : Int)) rfl (by kernel_rfl) (by kernel_rfl) (by kernel_rfl) (fun _ _ _ h => h) (.inl ⟨rfl, fun _ _ => by simp [execOp, go_sem]⟩) hS0 ?_
          simp only [List.getElem_toArray, List.getElem_cons_succ, List.getElem_cons_zero, Act.put, List.setIfInBounds_toArray, List.set_cons_zero, List.set_cons_succ]
          refine wpAnyH_take (i := 5) (v := .pointer (some ⟨F, 0, none⟩)) rfl (by kernel_rfl) (by kernel_rfl) (by kernel_rfl) (fun _ _ _ h => h) (.inl ⟨rfl, fun _ _ => by simp [execOp, go_sem]⟩) hS0 ?_
          simp only [List.getElem_toArray, List.getElem_cons_succ, List.getElem_cons_zero, Act.put, List.setIfInBounds_toArray, List.set_cons_zero, List.set_cons_succ]
          refine wpAnyH_take (i := 6) (v := .pointer (some ⟨F, 0, none⟩)) rfl (by kernel_rfl) (by kernel_rfl) (by kernel_rfl) (fun _ _ _ h => h) (.inl ⟨rfl, fun _ _ => by simp [execOp, go_sem]⟩) hS0 ?_
          simp only [List.getElem_toArray, List.getElem_cons_succ, List.getElem_cons_zero, Act.put, List.setIfInBounds_toArray, List.set_cons_zero, List.set_cons_succ]
          refine wpAnyH_take (i := 7) (v := .pointer (some ⟨F, 1, none⟩)) rfl (by kernel_rfl) (by kernel_rfl) (by kernel_rfl) (fun _ _ _ h => h) (.inl ⟨rfl, fun _ _ => by simp [execOp, go_sem]⟩) hS0 ?_
          simp only [List.getElem_toArray, List.getElem_cons_succ, List.getElem_cons_zero, Act.put, List.setIfInBounds_toArray, List.set_cons_zero, List.set_cons_succ]
          refine wpAnyH_take (i := 8) (v := (.slice (some ⟨Lg, 0, none⟩) i i)) rfl (by kernel_rfl) (by kernel_rfl) (by kernel_rfl) (fun _ _ _ h => h) (.inl ⟨rfl, fun w' hw' => by have hcc := hw'.2; simp [execOp, go_sem, hcc]⟩) hS0 ?_
          simp only [List.getElem_toArray, List.getElem_cons_succ, List.getElem_cons_zero, Act.put, List.setIfInBounds_toArray, List.set_cons_zero, List.set_cons_succ]
          refine wpAnyH_take (i := 9) (v := .int .i64 (o : Int)) rfl (by kernel_rfl) (by kernel_rfl) (by kernel_rfl) (fun _ _ _ h => h) (.inl ⟨rfl, fun _ _ => by simp [execOp, go_sem]⟩) hS0 ?_
          simp only [List.getElem_toArray, List.getElem_cons_succ, List.getElem_cons_zero, Act.put, List.setIfInBounds_toArray, List.set_cons_zero, List.set_cons_succ]
          refine wpAnyH_take (i := 10) (v := .int .i64 (o : Int)) rfl (by kernel_rfl) (by kernel_rfl) (by kernel_rfl) (fun _ _ _ h => h) (.inl ⟨rfl, fun _ _ => by simp [execOp, go_sem]⟩) hS0 ?_
          simp only [List.getElem_toArray, List.getElem_cons_succ, List.getElem_cons_zero, Act.put, List.setIfInBounds_toArray, List.set_cons_zero, List.set_cons_succ]
          refine wpAnyH_take (i := 11) (v := .int .i64 (o : Int)) rfl (by kernel_rfl) (by kernel_rfl) (by kernel_rfl) (fun _ _ _ h => h) (.inl ⟨rfl, fun _ _ => by simp [execOp, go_sem]⟩) hS0 ?_
          simp only [List.getElem_toArray, List.getElem_cons_succ, List.getElem_cons_zero, Act.put, List.setIfInBounds_toArray, List.set_cons_zero, List.set_cons_succ]
          refine wpAnyH_take (i := 12) (v := .int .i64 (q : Int)) rfl (by kernel_rfl) (by kernel_rfl) (by kernel_rfl) (fun _ _ _ h => h) (.inl ⟨rfl, fun _ _ => by simp [execOp, go_sem]⟩) hS0 ?_
          simp only [List.getElem_toArray, List.getElem_cons_succ, List.getElem_cons_zero, Act.put, List.setIfInBounds_toArray, List.set_cons_zero, List.set_cons_succ]
          refine wpAnyH_take (i := 13) (v := .int .i64 ((o : Int) + (q : Int))) rfl (by kernel_rfl) (by kernel_rfl) (by kernel_rfl) (fun _ _ _ h => h) (.inl ⟨rfl, fun _ _ => by simp [execOp, go_sem, hwrap]⟩) hS0 ?_
          simp only [List.getElem_toArray, List.getElem_cons_succ, List.getElem_cons_zero, Act.put, List.setIfInBounds_toArray, List.set_cons_zero, List.set_cons_succ]
          refine wpAnyH_take (i := 14) (v := .slice (some ⟨Lg, ae, none⟩) 0 q) rfl (by kernel_rfl) (by kernel_rfl) (by kernel_rfl) (fun _ _ _ h => h) (yieldsIf_slice rfl 74 (.tmp 53) (some (.tmp 54)) (some (.tmp 55)) (some (.tmp 58)) rfl _ (fun w => hcut w)) hS0 ?_
          simp only [List.getElem_toArray, List.getElem_cons_succ, List.getElem_cons_zero, Act.put, List.setIfInBounds_toArray, List.set_cons_zero, List.set_cons_succ]
          refine wpAnyH_take (i := 15) (v := .pointer (some ⟨g, k * 4, none⟩)) rfl (by kernel_rfl) (by kernel_rfl) (by kernel_rfl) (fun _ _ _ h => h) (yieldsIf_index rfl 73 (.tmp 48) (.tmp 49) rfl _ (fun w => by simp [Instr.indexAt, go_sem]; intro hh; omega)) hS0 ?_
          simp only [List.getElem_toArray, List.getElem_cons_succ, List.getElem_cons_zero, Act.put, List.setIfInBounds_toArray, List.set_cons_zero, List.set_cons_succ]
          refine wpAnyH_take (i := 16) (v := .pointer (some ⟨g, k * 4 + 3, none⟩)) rfl (by kernel_rfl) (by kernel_rfl) (by kernel_rfl) (fun _ _ _ h => h) (.inl ⟨rfl, fun _ _ => by simp [execOp, go_sem]⟩) hS0 ?_
          simp only [List.getElem_toArray, List.getElem_cons_succ, List.getElem_cons_zero, Act.put, List.setIfInBounds_toArray, List.set_cons_zero, List.set_cons_succ]
          refine wpAnyH_all (rs := [17]) (by kernel_rfl) (by simp) ?_
          intro i hi
          simp only [List.mem_cons, List.not_mem_nil, or_false] at hi
          subst hi
          refine wpOp_of_wp rfl rfl (fun K' hK' => ?_)
          go_wp2_with (fail)
          try refine ⟨q02, ?_⟩
          refine wpAnyH_done (by kernel_rfl) ?_ _
          try simp only [List.getElem_toArray, List.getElem_cons_succ, List.getElem_cons_zero, Act.put, List.setIfInBounds_toArray, List.set_cons_zero, List.set_cons_succ]
          clear q01 q02 c3d z3d hcut hwrap
          go_wp2_with (fail)
          go_roundw
          case rel => exact ⟨k + 1, o + q, by omega, by go_num, by go_num, HO5, HF5, HM5, HR5⟩
          case measure => simp [intOf]; omega
        · obtain rfl : k = n := by omega
          have hni2 : ¬ (k : Int) < (k : Int) := by omega
          have HF6 : Hid (Fs wr F (.slice adn k capn) (.slice (some ⟨Lg, 0, none⟩) i i) (layL N E Lg 0)) := by have := HF.out; rw [Hn.out, cutL_all] at this; rw [Hn.out]; exact this
          have HM6 : Hid (Fm w wr F (.slice adn k capn) lv (.slice adn k capn) (.slice (some ⟨Lg, 0, none⟩) i i)) := HM3.out.trans HM.out
          have HR6 : Hid (∃ C : List Int, RowI wr 0 (.slice (some ⟨Lg, 0, none⟩) i i) C ∧ Cok E 0 C) := ⟨_, HRm2.out, Cok.zero (by rw [List.length_replicate]; exact Hm.out)⟩
          clear HF HM HRm2 HO HF3 HM3 HRm HKr
          go_wp2_with (fail)
          go_loopw [68] (fun vi wr => ∃ i' : Nat, i' ≤ i ∧ vi = .int .i64 (i' : Int) ∧ Hid (Fs wr F (.slice adn k capn) (.slice (some ⟨Lg, 0, none⟩) i i) (layL N E Lg i')) ∧ Hid (Fm w wr F (.slice adn k capn) lv (.slice adn k capn) (.slice (some ⟨Lg, 0, none⟩) i i)) ∧ Hid (∃ C : List Int, RowI wr 0 (.slice (some ⟨Lg, 0, none⟩) i i) C ∧ Cok E i' C)) (fun vi _ => i - (intOf vi).toNat)
          case atStart => exact ⟨0, Nat.zero_le _, rfl, HF6, HM6, HR6⟩
          case round =>
            obtain ⟨i', hi', rfl, HF, HM, HRC⟩ := hrel
            clear HF6 HM6 HR6
            by_cases hlt3 : i' < i
            · have hlt3' : i' < E.length := by rw [← Hm.out]; exact hlt3
              have hlt3i : (i' : Int) < (i : Int) := by omega
              have hV := (HV0.out.moved HM.out).1
              obtain ⟨gv, ov, ev, e0, e1⟩ := rngY hV hlt3'
              cases ev
              have hin := HE.out _ (List.getElem_mem hlt3')
              have hcl := lst_lt hlt3'
              have hLs := layL_step (N := N) (Lg := Lg) hlt3'
              obtain ⟨C, hC1, hC2⟩ := HRC.out
              have hC3 := hC2.step hlt3'
              have hof := off_in hcl
              obtain ⟨nd0, hnd⟩ : ∃ nd0, nd0 = E[i'].1 := ⟨_, rfl⟩
              obtain ⟨pl, hpl⟩ : ∃ pl, pl = E[i'].2 := ⟨_, rfl⟩
              rw [← hnd] at e0 hin hcl hLs hC3 hof
              rw [← hpl] at e1 hC3
              have hndN : nd0 < N.length := hin.1
              have hnn : (nd0 : Int) < (k : Int) := by have := Hn.out; omega
              obtain ⟨g, cap', en, _, _, _, _, c3, hfz, hxe⟩ := HF.out.nod.cells (layL_at hndN)
              rw [layL_len, ← Hn.out] at en
              cases en
              obtain ⟨W1, hW1⟩ : ∃ W1, W1 = wr.alloc (.cells #[.int .i64 (nd0 : Int), .int .i64 (pl : Int)] 161) := ⟨_, rfl⟩
              have hbW : Below wr.heap.size wr W1 := by rw [hW1]; exact (Below.refl _ _).alloc (Nat.le_refl _) _
              obtain ⟨BX, hBX⟩ : ∃ BX, BX = wr.heap.size := ⟨_, rfl⟩
              have hYb : W1.heap[BX]? = some (.cells #[.int .i64 (nd0 : Int), .int .i64 (pl : Int)] 161 (0, 0)) := by rw [hW1, hBX]; exact blk_new wr _
              have hgL : ¬ g = Lg := fun e => HF.out.ap g rfl (by rw [e]; rfl)
              have hgF : ¬ g = F := fun e => HF.out.ap1 (by rw [← e]; rfl)
              have hLF2 : ¬ Lg = F := fun e => HF.out.ap2 (by rw [← e]; rfl)
              have hgb : g < wr.heap.size := (HF.out.nod.lt g rfl).2
              have hLb : Lg < wr.heap.size := HF.out.lw Lg rfl
              have hFb := HF.out.lt
              obtain ⟨W5, hW5⟩ : ∃ W5, W5 = W1.drew.alloc (.cells #[.int .i64 (pl : Int)] 3) := ⟨_, rfl⟩
              have hb5 : Below W1.heap.size W1 W5 := by rw [hW5]; exact (Below.refl _ _).drew.alloc (Nat.le_refl _) _
              have hbr5 : Below wr.heap.size wr W5 := hbW.trans (hb5.mono hbW.size)
              have hF5 := HF.out.on hbr5
              have hM5 := HM.out.trans (Fm.of_below hbr5)
              have hC5 : RowI W5 0 (.slice (some ⟨Lg, 0, none⟩) i i) C := hC1.on hbr5
              obtain ⟨ct, hct⟩ : ∃ ct, ct = (lstF (E.take i') nd0).length := ⟨_, rfl⟩
              obtain ⟨cp, hcp⟩ : ∃ cp, cp = (lstF E nd0).length := ⟨_, rfl⟩
              rw [← hct] at hcl hLs hC3 hof
              rw [← hcp] at hcl hLs
              have hae0 : adE E nd0 = offE E nd0 := if_neg (by rw [← hcp]; omega)
              obtain ⟨ae, hae⟩ : ∃ ae, ae = adE E nd0 := ⟨_, rfl⟩
              rw [← hae] at hLs
              rw [← hae0, ← hae] at hC3 hof
              have hctl : ct < cp := hcl
              have hx3 : layN N E Lg i' nd0 = (mk0 (nd N nd0)).lay (some ⟨Lg, ae, none⟩) ct cp := by unfold layN; rw [← hae, ← hct, ← hcp]
              have c3' : wr.cell? ⟨g, nd0 * 4 + 3, none⟩ = some (.slice (some ⟨Lg, ae, none⟩) ct cp) := by rw [hx3] at c3; exact c3
              have hpc := RowI.cell hC5 (k := ae + ct) (by rw [hC2.len]; exact hof)
              have hput := hF5.put (ae + ct) (.int .i64 (pl : Int))
              have hCs := RowI.set hC5 (ae + ct) (pl : Int)
              have hset := hput.1.cell nd0 3 (by rw [layL_len]; exact hndN) (by decide) ((layN N E Lg i' nd0).lay (some ⟨Lg, ae, none⟩) (ct + 1) cp) (.slice (some ⟨Lg, ae, none⟩) (ct + 1) cp) (by rw [← hxe]; exact enc_lay _ _ _ _)
              rw [hLs] at hset
              have HF8 : Hid (Fs ((W5.setCell ⟨Lg, ae + ct, none⟩ (.int .i64 (pl : Int))).setCell ⟨g, nd0 * 4 + 3, none⟩ (.slice (some ⟨Lg, ae, none⟩) (ct + 1) cp)) F (.slice (some ⟨g, 0, none⟩) k capn) (.slice (some ⟨Lg, 0, none⟩) i i) (layL N E Lg (i' + 1))) := hset.1
              have HM8 : Hid (Fm w ((W5.setCell ⟨Lg, ae + ct, none⟩ (.int .i64 (pl : Int))).setCell ⟨g, nd0 * 4 + 3, none⟩ (.slice (some ⟨Lg, ae, none⟩) (ct + 1) cp)) F (.slice (some ⟨g, 0, none⟩) k capn) lv (.slice (some ⟨g, 0, none⟩) k capn) (.slice (some ⟨Lg, 0, none⟩) i i)) := (hM5.trans hput.2).trans hset.2
              have HR8 : Hid (∃ C : List Int, RowI ((W5.setCell ⟨Lg, ae + ct, none⟩ (.int .i64 (pl : Int))).setCell ⟨g, nd0 * 4 + 3, none⟩ (.slice (some ⟨Lg, ae, none⟩) (ct + 1) cp)) 0 (.slice (some ⟨Lg, 0, none⟩) i i) C ∧ Cok E (i' + 1) C) := ⟨_, RowI.stay hCs.1 (fun j e => by
                have e : Lg = j := Option.some.inj e
                exact (only_setCellF _ g _ _).block j (by omega)), hC3⟩
              have hYd : W1.drew.heap[BX]? = some (.cells #[.int .i64 (nd0 : Int), .int .i64 (pl : Int)] 161 (0, 0)) := hYb
              have hY5 := blk_on hYb hb5
              have hY6 : (W5.setCell ⟨Lg, ae + ct, none⟩ (.int .i64 (pl : Int))).heap[BX]? = some (.cells #[.int .i64 (nd0 : Int), .int .i64 (pl : Int)] 161 (0, 0)) := ((only_setCellF W5 Lg _ _).block BX (by omega)).trans hY5
              have hY7 : ((W5.setCell ⟨Lg, ae + ct, none⟩ (.int .i64 (pl : Int))).setCell ⟨g, nd0 * 4 + 3, none⟩ (.slice (some ⟨Lg, ae, none⟩) (ct + 1) cp)).heap[BX]? = some (.cells #[.int .i64 (nd0 : Int), .int .i64 (pl : Int)] 161 (0, 0)) := ((only_setCellF _ g _ _).block BX (by omega)).trans hY6
              have hFd := HF.out.on (hbW.trans ((Below.refl W1.heap.size W1).drew.mono hbW.size))
              have s0 : W1.drew.cell? ⟨F, 0, none⟩ = some (.slice (some ⟨g, 0, none⟩) k capn) ∧ W1.drew.cell? ⟨BX, 0, none⟩ = some (.int .i64 (nd0 : Int)) ∧ W1.drew.cell? ⟨BX, 1, none⟩ = some (.int .i64 (pl : Int)) := ⟨(blk2 hFd.blk).1, (blk2 hYd).1, (blk2 hYd).2⟩
              have s5 : W5.cell? ⟨F, 0, none⟩ = some (.slice (some ⟨g, 0, none⟩) k capn) ∧ W5.cell? ⟨BX, 0, none⟩ = some (.int .i64 (nd0 : Int)) ∧ W5.cell? ⟨BX, 1, none⟩ = some (.int .i64 (pl : Int)) := ⟨(blk2 hF5.blk).1, (blk2 hY5).1, (blk2 hY5).2⟩
              have s6 : (W5.setCell ⟨Lg, ae + ct, none⟩ (.int .i64 (pl : Int))).cell? ⟨F, 0, none⟩ = some (.slice (some ⟨g, 0, none⟩) k capn) ∧ (W5.setCell ⟨Lg, ae + ct, none⟩ (.int .i64 (pl : Int))).cell? ⟨BX, 0, none⟩ = some (.int .i64 (nd0 : Int)) ∧ (W5.setCell ⟨Lg, ae + ct, none⟩ (.int .i64 (pl : Int))).cell? ⟨BX, 1, none⟩ = some (.int .i64 (pl : Int)) := ⟨(blk2 hput.1.blk).1, (blk2 hY6).1, (blk2 hY6).2⟩
              have s7 := And.intro (blk2 HF8.out.blk).1 (And.intro (blk2 hY7).1 (blk2 hY7).2)
              have c3 : W1.drew.cell? ⟨g, nd0 * 4 + 3, none⟩ = some (.slice (some ⟨Lg, ae, none⟩) ct cp) := (hbW.trans ((Below.refl W1.heap.size W1).drew.mono hbW.size)).cell (p := ⟨g, nd0 * 4 + 3, none⟩) hgb |>.trans c3'
              have c35 : W5.cell? ⟨g, nd0 * 4 + 3, none⟩ = some (.slice (some ⟨Lg, ae, none⟩) ct cp) := (hbr5.cell (p := ⟨g, nd0 * 4 + 3, none⟩) hgb).trans c3'
              have c36 : (W5.setCell ⟨Lg, ae + ct, none⟩ (.int .i64 (pl : Int))).cell? ⟨g, nd0 * 4 + 3, none⟩ = some (.slice (some ⟨Lg, ae, none⟩) ct cp) := (World.cell?_setCell_far _ _ _ _ (fun e => hgL e.symm)).trans c35
              have z36 : (W5.setCell ⟨Lg, ae + ct, none⟩ (.int .i64 (pl : Int))).frozen? ⟨g, nd0 * 4 + 3, none⟩ = false := hput.1.nod.frozen _
              have hone : W5.cell? ⟨W1.heap.size, 0, none⟩ = some (.int .i64 (pl : Int)) := by rw [hW5]; exact blk_cell (blk_new W1.drew _) rfl
              have hcz : ∃ z, W5.cell? ⟨Lg, ae + ct, none⟩ = some z := ⟨_, hpc.1⟩
              have hfz5 := hpc.2
              have hBXs : wr.heap.size = BX := hBX.symm
              have hW1s : wr.alloc (.cells #[.int .i64 (nd0 : Int), .int .i64 (pl : Int)] 161) = W1 := hW1.symm
              have hW5s : W1.drew.alloc (.cells #[.int .i64 (pl : Int)] 3) = W5 := hW5.symm
              have hWne : ¬ BX = W1.heap.size := by have := blk_lt hYb; omega
              clear hpc hput hCs hset hx3 c3' hae hae0 hct hcp hcl hLs hC3 hof hC5 hM5 hF5 hbr5 hb5 hW5 hW1 hBX hYb hYd hY5 hY6 hY7 hFd hgb hLb hFb hbW hfz hxe hnd hpl hin hV hC1 hC2 HRC HF HM
              subst hBXs
              go_upto_region 17 with (fail)
              try simp only [hW1s]
              refine wp_region_held_drew (S := fun w' => w'.cell? ⟨F, 0, none⟩ = some (.slice (some ⟨g, 0, none⟩) k capn) ∧ w'.cell? ⟨wr.heap.size, 0, none⟩ = some (.int .i64 (nd0 : Int)) ∧ w'.cell? ⟨wr.heap.size, 1, none⟩ = some (.int .i64 (pl : Int))) (by kernel_rfl) s0 (fun hS0 => ?_)
              show wpAnyH _ _ _ _ _ 22 _ _ _
              refine wpAnyH_take (i := 0) (v := .pointer (some ⟨F, 0, none⟩)) rfl (by kernel_rfl) (by kernel_rfl) (by kernel_rfl) (fun _ _ _ h => h) (.inl ⟨rfl, fun _ _ => by simp [execOp, go_sem]⟩) hS0 ?_
              simp only [List.getElem_toArray, List.getElem_cons_succ, List.getElem_cons_zero, Act.put, List.setIfInBounds_toArray, List.set_cons_zero, List.set_cons_succ]
              refine wpAnyH_take (i := 1) (v := .pointer (some ⟨F, 0, none⟩)) rfl (by kernel_rfl) (by kernel_rfl) (by kernel_rfl) (fun _ _ _ h => h) (.inl ⟨rfl, fun _ _ => by simp [execOp, go_sem]⟩) hS0 ?_
              simp only [List.getElem_toArray, List.getElem_cons_succ, List.getElem_cons_zero, Act.put, List.setIfInBounds_toArray, List.set_cons_zero, List.set_cons_succ]
              refine wpAnyH_take (i := 2) (v := .pointer (some ⟨F, 0, none⟩)) rfl (by kernel_rfl) (by kernel_rfl) (by kernel_rfl) (fun _ _ _ h => h) (.inl ⟨rfl, fun _ _ => by simp [execOp, go_sem]⟩) hS0 ?_
              simp only [List.getElem_toArray, List.getElem_cons_succ, List.getElem_cons_zero, Act.put, List.setIfInBounds_toArray, List.set_cons_zero, List.set_cons_succ]
              refine wpAnyH_take (i := 3) (v := (.slice (some ⟨g, 0, none⟩) k capn)) rfl (by kernel_rfl) (by kernel_rfl) (by kernel_rfl) (fun _ _ _ h => h) (.inl ⟨rfl, fun w' hw' => by have hcc := hw'.1; simp [execOp, go_sem, hcc]⟩) hS0 ?_
              simp only [List.getElem_toArray, List.getElem_cons_succ, List.getElem_cons_zero, Act.put, List.setIfInBounds_toArray, List.set_cons_zero, List.set_cons_succ]
              refine wpAnyH_take (i := 4) (v := .pointer (some ⟨wr.heap.size, 0, none⟩)) rfl (by kernel_rfl) (by kernel_rfl) (by kernel_rfl) (fun _ _ _ h => h) (.inl ⟨rfl, fun _ _ => by simp [execOp, go_sem]⟩) hS0 ?_
              simp only [List.getElem_toArray, List.getElem_cons_succ, List.getElem_cons_zero, Act.put, List.setIfInBounds_toArray, List.set_cons_zero, List.set_cons_succ]
              refine wpAnyH_take (i := 5) (v := .int .i64 (nd0 : Int)) rfl (by kernel_rfl) (by kernel_rfl) (by kernel_rfl) (fun _ _ _ h => h) (.inl ⟨rfl, fun w' hw' => by have hcc := hw'.2.1; simp [execOp, go_sem, hcc]⟩) hS0 ?_
              simp only [List.getElem_toArray, List.getElem_cons_succ, List.getElem_cons_zero, Act.put, List.setIfInBounds_toArray, List.set_cons_zero, List.set_cons_succ]
              refine wpAnyH_take (i := 6) (v := .pointer (some ⟨F, 0, none⟩)) rfl (by kernel_rfl) (by kernel_rfl) (by kernel_rfl) (fun _ _ _ h => h) (.inl ⟨rfl, fun _ _ => by simp [execOp, go_sem]⟩) hS0 ?_
              simp only [List.getElem_toArray, List.getElem_cons_succ, List.getElem_cons_zero, Act.put, List.setIfInBounds_toArray, List.set_cons_zero, List.set_cons_succ]
              refine wpAnyH_take (i := 7) (v := .pointer (some ⟨F, 0, none⟩)) rfl (by kernel_rfl) (by kernel_rfl) (by kernel_rfl) (fun _ _ _ h => h) (.inl ⟨rfl, fun _ _ => by simp [execOp, go_sem]⟩) hS0 ?_
              simp only [List.getElem_toArray, List.getElem_cons_succ, List.getElem_cons_zero, Act.put, List.setIfInBounds_toArray, List.set_cons_zero, List.set_cons_succ]
              refine wpAnyH_take (i := 8) (v := .pointer (some ⟨F, 0, none⟩)) rfl (by kernel_rfl) (by kernel_rfl) (by kernel_rfl) (fun _ _ _ h => h) (.inl ⟨rfl, fun _ _ => by simp [execOp, go_sem]⟩) hS0 ?_
              simp only [List.getElem_toArray, List.getElem_cons_succ, List.getElem_cons_zero, Act.put, List.setIfInBounds_toArray, List.set_cons_zero, List.set_cons_succ]
              refine wpAnyH_take (i := 9) (v := (.slice (some ⟨g, 0, none⟩) k capn)) rfl (by kernel_rfl) (by kernel_rfl) (by kernel_rfl) (fun _ _ _ h => h) (.inl ⟨rfl, fun w' hw' => by have hcc := hw'.1; simp [execOp, go_sem, hcc]⟩) hS0 ?_
              simp only [List.getElem_toArray, List.getElem_cons_succ, List.getElem_cons_zero, Act.put, List.setIfInBounds_toArray, List.set_cons_zero, List.set_cons_succ]
              refine wpAnyH_take (i := 10) (v := .pointer (some ⟨wr.heap.size, 0, none⟩)) rfl (by kernel_rfl) (by kernel_rfl) (by kernel_rfl) (fun _ _ _ h => h) (.inl ⟨rfl, fun _ _ => by simp [execOp, go_sem]⟩) hS0 ?_
              simp only [List.getElem_toArray, List.getElem_cons_succ, List.getElem_cons_zero, Act.put, List.setIfInBounds_toArray, List.set_cons_zero, List.set_cons_succ]
              refine wpAnyH_take (i := 11) (v := .int .i64 (nd0 : Int)) rfl (by kernel_rfl) (by kernel_rfl) (by kernel_rfl) (fun _ _ _ h => h) (.inl ⟨rfl, fun w' hw' => by have hcc := hw'.2.1; simp [execOp, go_sem, hcc]⟩) hS0 ?_
              simp only [List.getElem_toArray, List.getElem_cons_succ, List.getElem_cons_zero, Act.put, List.setIfInBounds_toArray, List.set_cons_zero, List.set_cons_succ]
              refine wpAnyH_take (i := 12) (v := .pointer (some ⟨g, nd0 * 4, none⟩)) rfl (by kernel_rfl) (by kernel_rfl) (by kernel_rfl) (fun _ _ _ h => h) (yieldsIf_index rfl 73 (.tmp 81) (.tmp 83) rfl _ (fun w => by simp [Instr.indexAt, go_sem]; intro hh; omega)) hS0 ?_
              simp only [List.getElem_toArray, List.getElem_cons_succ, List.getElem_cons_zero, Act.put, List.setIfInBounds_toArray, List.set_cons_zero, List.set_cons_succ]
              refine wpAnyH_take (i := 13) (v := .pointer (some ⟨g, nd0 * 4 + 3, none⟩)) rfl (by kernel_rfl) (by kernel_rfl) (by kernel_rfl) (fun _ _ _ h => h) (.inl ⟨rfl, fun _ _ => by simp [execOp, go_sem]⟩) hS0 ?_
              simp only [List.getElem_toArray, List.getElem_cons_succ, List.getElem_cons_zero, Act.put, List.setIfInBounds_toArray, List.set_cons_zero, List.set_cons_succ]
              refine wpAnyH_take (i := 15) (v := .pointer (some ⟨wr.heap.size, 1, none⟩)) rfl (by kernel_rfl) (by kernel_rfl) (by kernel_rfl) (fun _ _ _ h => h) (.inl ⟨rfl, fun _ _ => by simp [execOp, go_sem]⟩) hS0 ?_
              simp only [List.getElem_toArray, List.getElem_cons_succ, List.getElem_cons_zero, Act.put, List.setIfInBounds_toArray, List.set_cons_zero, List.set_cons_succ]
              refine wpAnyH_take (i := 16) (v := .int .i64 (pl : Int)) rfl (by kernel_rfl) (by kernel_rfl) (by kernel_rfl) (fun _ _ _ h => h) (.inl ⟨rfl, fun w' hw' => by have hcc := hw'.2.2; simp [execOp, go_sem, hcc]⟩) hS0 ?_
              simp only [List.getElem_toArray, List.getElem_cons_succ, List.getElem_cons_zero, Act.put, List.setIfInBounds_toArray, List.set_cons_zero, List.set_cons_succ]
              refine wpAnyH_all (rs := [14, 17]) (by kernel_rfl) (by simp) ?_
              intro i0 hi0
              simp only [List.mem_cons, List.not_mem_nil, or_false] at hi0
              rcases hi0 with hi0 | hi0
              · subst hi0
                refine wpOp_of_wp rfl rfl (fun K' hK' => ?_)
                go_wp2_with (fail)
                try refine ⟨s0, ?_⟩
                try simp only [List.getElem_toArray, List.getElem_cons_succ, List.getElem_cons_zero, Act.put, List.setIfInBounds_toArray, List.set_cons_zero, List.set_cons_succ]
                refine wpAnyH_all (rs := [17]) (by kernel_rfl) (by simp) ?_
                intro i hi
                simp only [List.mem_cons, List.not_mem_nil, or_false] at hi
                subst hi
                refine wpOp_of_wp rfl rfl (fun K' hK' => ?_)
                go_wp2_with (fail)
                try simp only [hW5s]
                try refine ⟨s5, ?_⟩
                try simp only [List.getElem_toArray, List.getElem_cons_succ, List.getElem_cons_zero, Act.put, List.setIfInBounds_toArray, List.set_cons_zero, List.set_cons_succ]
                refine wpAnyH_all (rs := [18]) (by kernel_rfl) (by simp) ?_
                intro i hi
                simp only [List.mem_cons, List.not_mem_nil, or_false] at hi
                subst hi
                refine wpOp_of_wp rfl rfl (fun K' hK' => ?_)
                refine wp_appendRoom (.tmp 86) (.tmp 89) rfl Lg ae ct cp W1.heap.size (pl : Int) rfl rfl hctl hone hcz hfz5 ?_
                refine hK' _ _ ⟨s6, ?_⟩
                simp only [List.getElem_toArray, List.getElem_cons_succ, List.getElem_cons_zero, Act.put, List.setIfInBounds_toArray, List.set_cons_zero, List.set_cons_succ]
                refine wpAnyH_take (i := 19) (v := .pointer (some ⟨g, nd0 * 4, none⟩)) rfl (by kernel_rfl) (by kernel_rfl) (by kernel_rfl) (fun _ _ _ h => h) (yieldsIf_index rfl 73 (.tmp 75) (.tmp 77) rfl _ (fun w => by simp [Instr.indexAt, go_sem]; intro hh; omega)) s6 ?_
                simp only [List.getElem_toArray, List.getElem_cons_succ, List.getElem_cons_zero, Act.put, List.setIfInBounds_toArray, List.set_cons_zero, List.set_cons_succ]
                refine wpAnyH_take (i := 20) (v := .pointer (some ⟨g, nd0 * 4 + 3, none⟩)) rfl (by kernel_rfl) (by kernel_rfl) (by kernel_rfl) (fun _ _ _ h => h) (.inl ⟨rfl, fun _ _ => by simp [execOp, go_sem]⟩) s6 ?_
                simp only [List.getElem_toArray, List.getElem_cons_succ, List.getElem_cons_zero, Act.put, List.setIfInBounds_toArray, List.set_cons_zero, List.set_cons_succ]
                refine wpAnyH_all (rs := [21]) (by kernel_rfl) (by simp) ?_
                intro i hi
                simp only [List.mem_cons, List.not_mem_nil, or_false] at hi
                subst hi
                refine wpOp_of_wp rfl rfl (fun K' hK' => ?_)
                go_wp2_with (fail)
                try refine ⟨s7, ?_⟩
                refine wpAnyH_done (by kernel_rfl) ?_ _
                try simp only [List.getElem_toArray, List.getElem_cons_succ, List.getElem_cons_zero, Act.put, List.setIfInBounds_toArray, List.set_cons_zero, List.set_cons_succ]
                clear s0 s5 s6 s7 hcz hfz5 hone c3 c35 c36 z36 hS0
                go_wp2_with (fail)
                go_roundw
                case rel => exact ⟨i' + 1, by omega, by go_num, HF8, HM8, HR8⟩
                case measure => simp [intOf]; omega
              · subst hi0
                refine wpOp_of_wp rfl rfl (fun K' hK' => ?_)
                go_wp2_with (fail)
                try simp only [hW5s]
                try refine ⟨s5, ?_⟩
                try simp only [List.getElem_toArray, List.getElem_cons_succ, List.getElem_cons_zero, Act.put, List.setIfInBounds_toArray, List.set_cons_zero, List.set_cons_succ]
                refine wpAnyH_all (rs := [14]) (by kernel_rfl) (by simp) ?_
                intro i hi
                simp only [List.mem_cons, List.not_mem_nil, or_false] at hi
                subst hi
                refine wpOp_of_wp rfl rfl (fun K' hK' => ?_)
                go_wp2_with (fail)
                try refine ⟨s5, ?_⟩
                try simp only [List.getElem_toArray, List.getElem_cons_succ, List.getElem_cons_zero, Act.put, List.setIfInBounds_toArray, List.set_cons_zero, List.set_cons_succ]
                refine wpAnyH_all (rs := [18]) (by kernel_rfl) (by simp) ?_
                intro i hi
                simp only [List.mem_cons, List.not_mem_nil, or_false] at hi
                subst hi
                refine wpOp_of_wp rfl rfl (fun K' hK' => ?_)
                refine wp_appendRoom (.tmp 86) (.tmp 89) rfl Lg ae ct cp W1.heap.size (pl : Int) rfl rfl hctl hone hcz hfz5 ?_
                refine hK' _ _ ⟨s6, ?_⟩
                simp only [List.getElem_toArray, List.getElem_cons_succ, List.getElem_cons_zero, Act.put, List.setIfInBounds_toArray, List.set_cons_zero, List.set_cons_succ]
                refine wpAnyH_take (i := 19) (v := .pointer (some ⟨g, nd0 * 4, none⟩)) rfl (by kernel_rfl) (by kernel_rfl) (by kernel_rfl) (fun _ _ _ h => h) (yieldsIf_index rfl 73 (.tmp 75) (.tmp 77) rfl _ (fun w => by simp [Instr.indexAt, go_sem]; intro hh; omega)) s6 ?_
                simp only [List.getElem_toArray, List.getElem_cons_succ, List.getElem_cons_zero, Act.put, List.setIfInBounds_toArray, List.set_cons_zero, List.set_cons_succ]
                refine wpAnyH_take (i := 20) (v := .pointer (some ⟨g, nd0 * 4 + 3, none⟩)) rfl (by kernel_rfl) (by kernel_rfl) (by kernel_rfl) (fun _ _ _ h => h) (.inl ⟨rfl, fun _ _ => by simp [execOp, go_sem]⟩) s6 ?_
                simp only [List.getElem_toArray, List.getElem_cons_succ, List.getElem_cons_zero, Act.put, List.setIfInBounds_toArray, List.set_cons_zero, List.set_cons_succ]
                refine wpAnyH_all (rs := [21]) (by kernel_rfl) (by simp) ?_
                intro i hi
                simp only [List.mem_cons, List.not_mem_nil, or_false] at hi
                subst hi
                refine wpOp_of_wp rfl rfl (fun K' hK' => ?_)
                go_wp2_with (fail)
                try refine ⟨s7, ?_⟩
                refine wpAnyH_done (by kernel_rfl) ?_ _
                try simp only [List.getElem_toArray, List.getElem_cons_succ, List.getElem_cons_zero, Act.put, List.setIfInBounds_toArray, List.set_cons_zero, List.set_cons_succ]
                clear s0 s5 s6 s7 hcz hfz5 hone c3 c35 c36 z36 hS0
                go_wp2_with (fail)
                go_roundw
                case rel => exact ⟨i' + 1, by omega, by go_num, HF8, HM8, HR8⟩
                case measure => simp [intOf]; omega
            · obtain rfl : i' = i := by omega
              have hni3 : ¬ (i' : Int) < (i' : Int) := by omega
              obtain ⟨C, hC1, hC2⟩ := HRC.out
              have HFil : Hid (Fil wr (.slice (some ⟨Lg, 0, none⟩) i' i') N (layL N E Lg i') E) := ⟨Lg, C, by rw [Hm.out], by rw [Hm.out], hC1, by rw [Hm.out] at hC2; exact hC2⟩
              clear hC1 hC2 HRC
              go_wp2_with (fail)
              go_end0
              exact ⟨rfl, _, _, HF.out, HM.out, HFil.out⟩
end Go.Proofs.YtgidohnikggjfaaGreat
