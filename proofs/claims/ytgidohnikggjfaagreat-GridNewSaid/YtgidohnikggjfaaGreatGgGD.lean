/-
  GgGD: GdJ GdK GdP GdO, one behind the other (tools/merge.py).
-/
import Derived.Test.YtgidohnikggjfaaGreatGgGC
/-
  grid's link and join: the switches.
-/
namespace Go.Proofs.YtgidohnikggjfaaGreat
open Go.RowKit
set_option linter.unusedVariables false
set_option linter.unusedSimpArgs false

theorem lk_none {N0 : List Pn} {G : List Lab} (hw : Gw N0 G) {B : List Nat → Nat} {qs : List Nat} {k r : Nat} {q : List Nat} {N : List Pn} (isr : r = B (qs.take k)) (ne : r ≠ 0) {i t : Nat} (hg : G[i]? = some (r, q)) (hi : i < N.length) (ht : t < 2) (hk : ix G (r, q ++ [t]) = 0) :
    Upd G r (fun e => (q ++ [t]) <+: e) (fun e => nf G B qs e (k + 1)) N (N.set i ((nd N i).put t (nf G B qs (q ++ [t]) k))) := by
  have e : nf G B qs (q ++ [t]) (k + 1) = nf G B qs (q ++ [t]) k := nf_two (by rw [← isr]; exact hk)
  rw [← e]
  refine Upd.set hw (f := fun e => nf G B qs e (k + 1)) hg ht hi fun j p u hj hu => ?_
  rw [pre_snoc]
  constructor
  · rintro (e1 | e1)
    · exact absurd hj (hw.ix_none (hw.ix_under e1 hk) ne j)
    · exact e1
  · exact .inr
theorem lk_more {G : List Lab} {B : List Nat → Nat} {qs : List Nat} {k r : Nat} {q : List Nat} {N N' : List Pn} (isr : r = B (qs.take k)) {t : Nat} (hown : ∀ i : Nat, G[i]? = some (r, q) → (nd N i).kid t = ix G (r, q ++ [t])) (ht : t < 2) (hk : ix G (r, q ++ [t]) ≠ 0)
    (u : Upd G r (fun e => (q ++ [t]) <+: e ∧ e ≠ q ++ [t]) (fun e => nf G B qs e (k + 1)) N N') : Upd G r (fun e => (q ++ [t]) <+: e) (fun e => nf G B qs e (k + 1)) N N' := by
  refine ⟨u.len, u.c, fun i p v hg hv he => ?_, fun i r' p v hg hv he => ?_⟩
  · by_cases e : p ++ [v] = q ++ [t]
    · have h1 := List.append_inj' e rfl
      obtain rfl := h1.1
      obtain rfl := (List.cons.inj h1.2).1
      rw [u.old i r p v hg hv (.inr fun e => e.2 rfl), hown i hg]
      have h2 := nf_one (G := G) (B := B) (qs := qs) (dq := p ++ [v]) (k := k) (by rw [← isr]; exact hk)
      rw [← isr] at h2
      exact h2.symm
    · exact u.new i p v hg hv ⟨he, e⟩
  · refine u.old i r' p v hg hv ?_
    rcases he with e | e
    · exact .inl e
    · exact .inr fun e' => e e'.1
theorem nd_p {L : List Gn} {i : Nat} {x : Gn} (h : L[i]? = some x) : nd (L.map Gn.p) i = x.p := nd_at (by rw [List.getElem?_map, h]; rfl)
theorem at_p (x : Gn) (y : Pn) : (x.at y).p = y := rfl
theorem at_v (x : Gn) (y : Pn) : (x.at y).v = x.v := rfl
theorem set_p {L : List Gn} {i : Nat} (x : Gn) (y : Pn) : (L.set i (x.at y)).map Gn.p = (L.map Gn.p).set i y := by rw [List.map_set, at_p]
theorem set_v {L : List Gn} {i : Nat} {x : Gn} (h : L[i]? = some x) (y : Pn) : (L.set i (x.at y)).map Gn.v = L.map Gn.v := by
  rw [List.map_set, at_v]
  apply List.ext_getElem?
  intro j
  rw [List.getElem?_set]
  by_cases e : i = j
  · subst e
    rw [if_pos rfl, List.getElem?_map, h]
    have := pn_lt h
    simp [this]
  · rw [if_neg e]
theorem grown_refl (w : World) (g : Option Nat) : w.grownBy w g := ⟨rfl, rfl, rfl, Nat.le_refl _, fun _ _ _ => rfl⟩
/-- What the state is behind i of the two bits. -/
def Two (G : List Lab) (r : Nat) (q : List Nat) (f : List Nat → Nat) (N N' : List Pn) (i : Nat) : Prop := (i = 0 → N' = N) ∧ (i = 1 → Upd G r (fun e => (q ++ [0]) <+: e) f N N') ∧ (i = 2 → Upd G r (fun e => q <+: e ∧ e ≠ q) f N N')
def Lnk (w w' : World) (F g n cap : Nat) (lv : Value) (L L' : List Gn) : Prop := Fs w' F (.slice (some ⟨g, 0, none⟩) n cap) lv L' ∧ w.grownBy w' (some g) ∧ L'.map Gn.v = L.map Gn.v
theorem Lnk.trans {w w1 w2 : World} {F g n cap : Nat} {lv : Value} {L L1 L2 : List Gn} (h : Lnk w w1 F g n cap lv L L1) (k : Lnk w1 w2 F g n cap lv L1 L2) : Lnk w w2 F g n cap lv L L2 := ⟨k.1, h.2.1.trans k.2.1, k.2.2.trans h.2.2⟩
theorem Lnk.refl {w : World} {F g n cap : Nat} {lv : Value} {L : List Gn} (h : Fs w F (.slice (some ⟨g, 0, none⟩) n cap) lv L) : Lnk w w F g n cap lv L L := ⟨h, grown_refl _ _, rfl⟩
theorem Lnk.len {w w' : World} {F g n cap : Nat} {lv : Value} {L L' : List Gn} (h : Lnk w w' F g n cap lv L L') : L'.length = L.length := by have := congrArg List.length h.2.2; simpa using this
/-- A node's way on is another. -/
theorem Lnk.put {w : World} {F g n cap : Nat} {lv : Value} {L : List Gn} (h : Fs w F (.slice (some ⟨g, 0, none⟩) n cap) lv L) {i : Nat} {x : Gn} (hx : L[i]? = some x) (t b : Nat) (ht : t = 0 ∨ t = 1) :
    Lnk w (w.setCell ⟨g, i * 4 + t, none⟩ (.int .i64 (b : Int))) F g n cap lv L (L.set i (x.at (x.p.put t b))) ∧ (L.set i (x.at (x.p.put t b))).map Gn.p = (L.map Gn.p).set i ((nd (L.map Gn.p) i).put t b) := by
  have hi := pn_lt hx
  have ex : L[i] = x := by rw [List.getElem?_eq_getElem hi] at hx; exact Option.some.inj hx
  have hc := h.cell i t hi (by omega) (x.at (x.p.put t b)) (.int .i64 (b : Int)) (by rw [ex]; exact enc_putG x t b ht)
  refine ⟨⟨hc.1, ?_, set_v hx _⟩, by rw [set_p, nd_p hx]⟩
  exact (h.nod.set i t hi (by omega) (x.at (x.p.put t b)) (.int .i64 (b : Int)) (by rw [ex]; exact enc_putG x t b ht)).2
theorem idx0 (a b : Nat) (W : World) : (Instr.index 107 (.agg #[.int .i64 (a : Int), .int .i64 (b : Int)]) (.int .i64 0)).run Tryz.prog W = .ok (.int .i64 (a : Int)) W := by
  simp [Instr.index, run_underlying Tryz.underlying107, asIntOf, go_sem]
theorem idx1 (a b : Nat) (W : World) : (Instr.index 107 (.agg #[.int .i64 (a : Int), .int .i64 (b : Int)]) (.int .i64 1)).run Tryz.prog W = .ok (.int .i64 (b : Int)) W := by
  simp [Instr.index, run_underlying Tryz.underlying107, asIntOf, go_sem]
set_option maxHeartbeats 8000000 in
set_option maxRecDepth 20000 in
theorem linkC {N0 : List Pn} {G : List Lab} {B : List Nat → Nat} (hw : Gw N0 G) (F g n cap : Nat) (lv : Value) (qs : List Nat) (k r : Nat) (hnb : n ≤ 4200) (hnN : n = N0.length) : ∀ (d : Nat) (q : List Nat) (a b : Nat) (L : List Gn) (w : World), 33 ≤ q.length + d → Fs w F (.slice (some ⟨g, 0, none⟩) n cap) lv L → L.length = n → Lkp G B qs k r q (L.map Gn.p) → G[a]? = some (r, q) → b = nf G B qs q k →
    Calls Tryz.prog 106 #[.pointer (some ⟨F, 0, none⟩), .int .i64 (a : Int), .int .i64 (b : Int)] w fun e w' => e = .returned (.tuple #[]) ∧ ∃ L' : List Gn, Lnk w w' F g n cap lv L L' ∧ Upd G r (fun e => q <+: e ∧ e ≠ q) (fun e => nf G B qs e (k + 1)) (L.map Gn.p) (L'.map Gn.p)
  | 0, q, a, b, L, w, hd, h, hL, P, hg, hb => by
    have := hw.wf.short a r q hg
    omega
  | d + 1, q, a, b, L, w, hd, h, hL, P, hg, hb => by
    have IH := linkC hw F g n cap lv qs k r hnb hnN d (B := B)
    have HW : Hid (Gw N0 G) := hw
    have HP : Hid (Lkp G B qs k r q (L.map Gn.p)) := P
    have Hg : Hid (G[a]? = some (r, q)) := hg
    have Hb : Hid (b = nf G B qs q k) := hb
    have HF0 : Hid (Fs w F (.slice (some ⟨g, 0, none⟩) n cap) lv L) := h
    have HL : Hid (L.length = n) := hL
    have hal : a < n := by rw [hnN, hw.wf.len]; exact pn_lt hg
    have hbl : b < n := by rw [hnN, hb]; exact hw.nf_lt _ _ _ _
    have hai : (a : Int) < (n : Int) := by omega
    have hbi : (b : Int) < (n : Int) := by omega
    have hni : (n : Int) ≤ 4200 := by omega
    obtain ⟨x, hx⟩ : ∃ x, L[a]? = some x := ⟨L[a]'(by rw [hL]; exact hal), List.getElem?_eq_getElem _⟩
    obtain ⟨g', cap', e', hcp', c0, c1, c2, c3, hfz', hxq⟩ := h.nod.cells hx
    injection e' with e1 e2 e3
    cases e1
    clear hxq e2 e3 hcp' c2 c3 hfz' cap'
    have hk0 := P.own a q 0 hg (List.prefix_refl _) (by decide)
    have hk1 := P.own a q 1 hg (List.prefix_refl _) (by decide)
    rw [nd_p hx] at hk0 hk1
    have HK0 : Hid (x.a = ix G (r, q ++ [0])) := hk0
    have HK1 : Hid (x.b = ix G (r, q ++ [1])) := hk1
    obtain ⟨F0, _⟩ := blk2 h.blk
    clear hk0 hk1 P hg hb h hL hw hx hnN
    have z00 : ((0 : Nat) : Int) = 0 := rfl
    have z11 : ((1 : Nat) : Int) = 1 := rfl
    have z22 : ((2 : Nat) : Int) = 2 := rfl
    go_enter Tryz.func106, Tryz.ntmps106
    go_wp2_with (fail)
    clear c0 c1 F0
    go_loopw [17] (fun vi wr => ∃ (i : Nat) (L1 : List Gn), i ≤ 2 ∧ vi = .int .i64 (i : Int) ∧ Hid (Lnk w wr F g n cap lv L L1) ∧ Hid (Two G r q (fun e => nf G B qs e (k + 1)) (L.map Gn.p) (L1.map Gn.p) i)) (fun vi _ => 2 - (intOf vi).toNat)
    case atStart => exact ⟨0, L, Nat.zero_le _, rfl, Lnk.refl HF0.out, ⟨fun _ => rfl, fun e => by omega, fun e => by omega⟩⟩
    case round =>
      obtain ⟨i, L1, hi, rfl, HK, HT⟩ := hrel
      have HL1 : Hid (L1.length = n) := HK.out.len.trans HL.out
      rcases (show i = 0 ∨ i = 1 ∨ i = 2 by omega) with rfl | rfl | rfl
      · simp only [z00]
        have hix := idx0 x.a x.b
        have hN1 : L1.map Gn.p = L.map Gn.p := HT.out.1 rfl
        have hP1 : Lkp G B qs k r q (L1.map Gn.p) := by rw [hN1]; exact HP.out
        obtain ⟨y, hy⟩ : ∃ y, L1[b]? = some y := ⟨L1[b]'(by rw [HL1.out]; exact hbl), List.getElem?_eq_getElem _⟩
        obtain ⟨z, hz⟩ : ∃ z, L1[a]? = some z := ⟨L1[a]'(by rw [HL1.out]; exact hal), List.getElem?_eq_getElem _⟩
        obtain ⟨g', cap', e', hcp', c0, c1, c2, c3, hfz, hxq⟩ := HK.out.1.nod.cells hy
        injection e' with e1 e2 e3
        cases e1
        clear hxq e2 e3 hcp' c2 c3 cap'
        obtain ⟨g'', cap'', e'', hcp', d0, d1, d2, d3, hfz2, hxq⟩ := HK.out.1.nod.cells hz
        injection e'' with e1 e2 e3
        cases e1
        clear hxq e2 e3 hcp' d2 d3 hfz2 cap''
        have hab := hP1.abv q 0 (by decide)
        rw [← Hb.out, nd_p hy] at hab
        have Hab : Hid (y.a = nf G B qs (q ++ [0]) k) := hab
        obtain ⟨F0, _⟩ := blk2 HK.out.1.blk
        by_cases hkd : x.a = 0
        · have hkb : ((x.a : Int) == 0) = true := by rw [hkd]; rfl
          have hzz := hfz (a * 4)
          have hput := Lnk.put HK.out.1 hz 0 y.a (.inl rfl)
          rw [Nat.add_zero] at hput
          have HK2 : Hid (Lnk w (wr.setCell ⟨g, a * 4, none⟩ (.int .i64 (y.a : Int))) F g n cap lv L (L1.set a (z.at (z.p.put 0 y.a)))) := HK.out.trans hput.1
          have HT2 : Hid (Two G r q (fun e => nf G B qs e (k + 1)) (L.map Gn.p) ((L1.set a (z.at (z.p.put 0 y.a))).map Gn.p) 1) := by
            refine ⟨fun e => by omega, fun _ => ?_, fun e => by omega⟩
            rw [hput.2, Hab.out, hN1]
            exact lk_none HW.out HP.out.isr HP.out.ne Hg.out (by rw [List.length_map, HL.out]; exact hal) (by decide) (by rw [← HK0.out]; exact hkd)
          clear hput hab hP1 hN1 hfz HT HP HK c1 d1 hy hz hkd
          go_wp2_with (fail)
          go_roundw
          case rel => exact ⟨1, _, by omega, by go_num, HK2, HT2⟩
          case measure => simp [intOf]
        · have hkb : ((x.a : Int) == 0) = false := by rw [beq_eq_false_iff_ne]; omega
          have hne : ix G (r, q ++ [0]) ≠ 0 := by rw [← HK0.out]; exact hkd
          have hI := IH (q ++ [0]) x.a y.a L1 wr (by simp; omega) HK.out.1 HL1.out (hP1.sub HW.out (List.prefix_append _ _)) (by rw [HK0.out]; exact ix_at hne) Hab.out
          have Hown : Hid (∀ i : Nat, G[i]? = some (r, q) → (nd (L.map Gn.p) i).kid 0 = ix G (r, q ++ [0])) := fun i hi => HP.out.own i q 0 hi (List.prefix_refl _) (by decide)
          have Hne : Hid (ix G (r, q ++ [0]) ≠ 0) := hne
          have HN1 : Hid (L1.map Gn.p = L.map Gn.p) := hN1
          have Hisr : Hid (r = B (qs.take k)) := HP.out.isr
          clear hab hP1 hN1 hfz HT HP c1 d0 d1 hne hy hz hkd
          go_wp2_with (go_at_call 106; fail)
          refine hI.mono ?_
          rintro e w4 ⟨rfl, L4, hk4, hu4⟩
          have HK2 : Hid (Lnk w w4 F g n cap lv L L4) := HK.out.trans hk4
          have HT2 : Hid (Two G r q (fun e => nf G B qs e (k + 1)) (L.map Gn.p) (L4.map Gn.p) 1) := ⟨fun e => by omega, fun _ => lk_more Hisr.out Hown.out (by decide) Hne.out (by rw [HN1.out] at hu4; exact hu4), fun e => by omega⟩
          clear hk4 hu4 hI c0 F0 HK
          go_wp2_with (fail)
          go_roundw
          case rel => exact ⟨1, _, by omega, by go_num, HK2, HT2⟩
          case measure => simp [intOf]
      · simp only [z11]
        have hix := idx1 x.a x.b
        have hu : Upd G r (fun e => (q ++ [0]) <+: e) (fun e => nf G B qs e (k + 1)) (L.map Gn.p) (L1.map Gn.p) := HT.out.2.1 rfl
        have Hu : Hid (Upd G r (fun e => (q ++ [0]) <+: e) (fun e => nf G B qs e (k + 1)) (L.map Gn.p) (L1.map Gn.p)) := hu
        have hP1 : Lkp G B qs k r (q ++ [1]) (L1.map Gn.p) := HP.out.upd HW.out (List.prefix_append _ _) hu (fun p t hp => pre_apart hp t)
        obtain ⟨y, hy⟩ : ∃ y, L1[b]? = some y := ⟨L1[b]'(by rw [HL1.out]; exact hbl), List.getElem?_eq_getElem _⟩
        obtain ⟨z, hz⟩ : ∃ z, L1[a]? = some z := ⟨L1[a]'(by rw [HL1.out]; exact hal), List.getElem?_eq_getElem _⟩
        obtain ⟨g', cap', e', hcp', c0, c1, c2, c3, hfz, hxq⟩ := HK.out.1.nod.cells hy
        injection e' with e1 e2 e3
        cases e1
        clear hxq e2 e3 hcp' c2 c3 cap'
        obtain ⟨g'', cap'', e'', hcp', d0, d1, d2, d3, hfz2, hxq⟩ := HK.out.1.nod.cells hz
        injection e'' with e1 e2 e3
        cases e1
        clear hxq e2 e3 hcp' d2 d3 hfz2 cap''
        have hab := hP1.abv q 1 (by decide)
        rw [← Hb.out, nd_p hy] at hab
        have Hab : Hid (y.b = nf G B qs (q ++ [1]) k) := hab
        obtain ⟨F0, _⟩ := blk2 HK.out.1.blk
        by_cases hkd : x.b = 0
        · have hkb : ((x.b : Int) == 0) = true := by rw [hkd]; rfl
          have hzz := hfz (a * 4 + 1)
          have hput := Lnk.put HK.out.1 hz 1 y.b (.inr rfl)
          have HK2 : Hid (Lnk w (wr.setCell ⟨g, a * 4 + 1, none⟩ (.int .i64 (y.b : Int))) F g n cap lv L (L1.set a (z.at (z.p.put 1 y.b)))) := HK.out.trans hput.1
          have HT2 : Hid (Two G r q (fun e => nf G B qs e (k + 1)) (L.map Gn.p) ((L1.set a (z.at (z.p.put 1 y.b))).map Gn.p) 2) := by
            refine ⟨fun e => by omega, fun e => by omega, fun _ => Upd.both HW.out hu ?_⟩
            rw [hput.2, Hab.out]
            exact lk_none HW.out HP.out.isr HP.out.ne Hg.out (by rw [List.length_map, HL1.out]; exact hal) (by decide) (by rw [← HK1.out]; exact hkd)
          clear hput hab hP1 hu Hu hfz HT HP HK c0 d0 hy hz hkd
          go_wp2_with (fail)
          go_roundw
          case rel => exact ⟨2, _, by omega, by go_num, HK2, HT2⟩
          case measure => simp [intOf]
        · have hkb : ((x.b : Int) == 0) = false := by rw [beq_eq_false_iff_ne]; omega
          have hne : ix G (r, q ++ [1]) ≠ 0 := by rw [← HK1.out]; exact hkd
          have hI := IH (q ++ [1]) x.b y.b L1 wr (by simp; omega) HK.out.1 HL1.out hP1 (by rw [HK1.out]; exact ix_at hne) Hab.out
          have Hown : Hid (∀ i : Nat, G[i]? = some (r, q) → (nd (L1.map Gn.p) i).kid 1 = ix G (r, q ++ [1])) := fun i hi => by
            rw [Hu.out.old i r q 1 hi (by decide) (.inr (by rintro ⟨v, hv⟩; simp at hv))]
            exact HP.out.own i q 1 hi (List.prefix_refl _) (by decide)
          have Hne : Hid (ix G (r, q ++ [1]) ≠ 0) := hne
          have Hisr : Hid (r = B (qs.take k)) := HP.out.isr
          clear hab hP1 hu hfz HT HP c0 d0 d1 hne hy hz hkd
          go_wp2_with (go_at_call 106; fail)
          refine hI.mono ?_
          rintro e w4 ⟨rfl, L4, hk4, hu4⟩
          have HK2 : Hid (Lnk w w4 F g n cap lv L L4) := HK.out.trans hk4
          have HT2 : Hid (Two G r q (fun e => nf G B qs e (k + 1)) (L.map Gn.p) (L4.map Gn.p) 2) := ⟨fun e => by omega, fun e => by omega, fun _ => Upd.both HW.out Hu.out (lk_more Hisr.out Hown.out (by decide) Hne.out hu4)⟩
          clear hk4 hu4 hI c1 F0 HK Hu
          go_wp2_with (fail)
          go_roundw
          case rel => exact ⟨2, _, by omega, by go_num, HK2, HT2⟩
          case measure => simp [intOf]
      · simp only [z22]
        have HU : Hid (Upd G r (fun e => q <+: e ∧ e ≠ q) (fun e => nf G B qs e (k + 1)) (L.map Gn.p) (L1.map Gn.p)) := HT.out.2.2 rfl
        go_wp2_with (fail)
        go_end0
        exact ⟨rfl, L1, HK.out, HU.out⟩
end Go.Proofs.YtgidohnikggjfaaGreat
/-
  grid's join. Written by tools/mkGdK.py.
-/
namespace Go.Proofs.YtgidohnikggjfaaGreat
open Go.RowKit
set_option linter.unusedVariables false
set_option linter.unusedSimpArgs false

def JT (N0 N : List Pn) (G : List Lab) (B : List Nat → Nat) (D : List Nat → Prop) (q : List Nat) (i : Nat) : Prop := (i = 0 → Jst N0 N G B (fun p => D p ∨ p = q)) ∧ (i = 1 → Jst N0 N G B (fun p => (D p ∨ p = q) ∨ (q ++ [0]) <+: p)) ∧ (i = 2 → Jst N0 N G B (fun p => ((D p ∨ p = q) ∨ (q ++ [0]) <+: p) ∨ (q ++ [1]) <+: p))
set_option maxHeartbeats 1000000 in
theorem join0 {N0 : List Pn} {G : List Lab} {B : List Nat → Nat} (hw : Gw N0 G) (hB : Bk G B) (F g n cap : Nat) (lv : Value) (q : List Nat) (b : Nat) (L : List Gn) (w : World) (D : List Nat → Prop) (h : Fs w F (.slice (some ⟨g, 0, none⟩) n cap) lv L) (J : Jst N0 (L.map Gn.p) G B D) (hs : ix G (1, q) = 0) :
    Calls Tryz.prog 95 #[.pointer (some ⟨F, 0, none⟩), .int .i64 0, .int .i64 (b : Int)] w fun e w' => e = .returned (.tuple #[]) ∧ ∃ L' : List Gn, Lnk w w' F g n cap lv L L' ∧ Jst N0 (L'.map Gn.p) G B (fun p => D p ∨ q <+: p) := by
  have HR : Hid (Lnk w w F g n cap lv L L) := Lnk.refl h
  have HJ : Hid (Jst N0 (L.map Gn.p) G B (fun p => D p ∨ q <+: p)) := J.nowhere hw hB hs
  clear h J hs hw hB
  go_enter Tryz.func95, Tryz.ntmps95
  go_wp2_with (fail)
  refine bodyPost_ret (results_none rfl _ _ _) rfl ?_
  exact ⟨rfl, L, HR.out, HJ.out⟩
set_option maxHeartbeats 8000000 in
set_option maxRecDepth 20000 in
theorem joinC {N0 : List Pn} {G : List Lab} {B : List Nat → Nat} (hw : Gw N0 G) (hB : Bk G B) (hBc : ∀ q, B q = (nd N0 (ix G (1, q))).c) (F g n cap : Nat) (lv : Value) (hnb : n ≤ 4200) (hnN : n = N0.length) : ∀ (d : Nat) (q : List Nat) (s b : Nat) (L : List Gn) (w : World) (D : List Nat → Prop), 33 ≤ q.length + d → Fs w F (.slice (some ⟨g, 0, none⟩) n cap) lv L → L.length = n → Jst N0 (L.map Gn.p) G B D → (∀ j, j < q.length → D (q.take j)) → (∀ p, q <+: p → ¬ D p) → s = ix G (1, q) → b = nf G B q [] q.length →
    Calls Tryz.prog 95 #[.pointer (some ⟨F, 0, none⟩), .int .i64 (s : Int), .int .i64 (b : Int)] w fun e w' => e = .returned (.tuple #[]) ∧ ∃ L' : List Gn, Lnk w w' F g n cap lv L L' ∧ Jst N0 (L'.map Gn.p) G B (fun p => D p ∨ q <+: p)
  | 0, q, s, b, L, w, D, hd, h, hL, J, hD1, hD2, hs, hb => by
    have h0 : ix G (1, q) = 0 := by
      apply Classical.byContradiction
      intro e
      have := hw.wf.short _ _ _ (ix_at e)
      omega
    rw [hs, h0]
    exact join0 hw hB F g n cap lv q b L w D h J h0
  | d + 1, q, s, b, L, w, D, hd, h, hL, J, hD1, hD2, hs, hb => by
    by_cases h0 : ix G (1, q) = 0
    · rw [hs, h0]
      exact join0 hw hB F g n cap lv q b L w D h J h0
    · have IH := joinC hw hB hBc F g n cap lv hnb hnN d
      have HW : Hid (Gw N0 G) := hw
      have HB : Hid (Bk G B) := hB
      have Hs : Hid (s = ix G (1, q)) := hs
      have HF0 : Hid (Fs w F (.slice (some ⟨g, 0, none⟩) n cap) lv L) := h
      have HL : Hid (L.length = n) := hL
      have HD1 : Hid (∀ j, j < q.length → D (q.take j)) := hD1
      have HD2 : Hid (∀ p, q <+: p → ¬ D p) := hD2
      have hnq : ¬ D q := hD2 q (List.prefix_refl _)
      have hsl : s < n := by rw [hnN, hs]; exact hw.ix_lt _
      have hsi : (s : Int) < (n : Int) := by omega
      have hni : (n : Int) ≤ 4200 := by omega
      have hs0 : ((s : Int) == 0) = false := by rw [beq_eq_false_iff_ne]; omega
      obtain ⟨x, hx⟩ : ∃ x, L[s]? = some x := ⟨L[s]'(by rw [hL]; exact hsl), List.getElem?_eq_getElem _⟩
      obtain ⟨g', cap', e', hcp', c0, c1, c2, c3, hfz', hxq⟩ := h.nod.cells hx
      injection e' with e1 e2 e3
      cases e1
      have hxc : x.c = B q := by
        have := J.c s
        rw [nd_p hx] at this
        rw [hBc q, ← hs]; exact this
      obtain ⟨F0, _⟩ := blk2 h.blk
      have z00 : ((0 : Nat) : Int) = 0 := rfl
      have z11 : ((1 : Nat) : Int) = 1 := rfl
      have z22 : ((2 : Nat) : Int) = 2 := rfl
      have hnf := nf_below hw hB q
      clear hxq e2 e3 hcp' c0 c1 c3 hfz' cap' hx
      by_cases hbq : B q = 0
      · have hcb : ((x.c : Int) != 0) = false := by rw [hxc, hbq]; rfl
        have Hab : Hid (∀ t, nf G B (q ++ [t]) [] (q.length + 1) = b) := fun t => by rw [hnf t, if_pos hbq, hb]
        have hj1 : Jst N0 (L.map Gn.p) G B (fun p => D p ∨ p = q) := J.none hbq
        have HJa : Hid (Jst N0 (L.map Gn.p) G B (fun p => D p ∨ p = q)) := hj1
        clear hj1 hnf hbq hxc J hs hb hL hD1 hD2 hnq h0 h hw hB hBc hnN
        go_enter Tryz.func95, Tryz.ntmps95
        go_upto_region 5 with (fail)
        obtain ⟨L1, hLe⟩ : ∃ L1, L1 = L := ⟨_, rfl⟩
        have HK1 : Hid (Lnk w w F g n cap lv L L1) := by rw [hLe]; exact Lnk.refl HF0.out
        have hj1 : Jst N0 (L1.map Gn.p) G B (fun p => D p ∨ p = q) := by rw [hLe]; exact HJa.out
        clear hLe HJa c2 F0
        have HJ1 : Hid (Jst N0 (L1.map Gn.p) G B (fun p => D p ∨ p = q)) := hj1
        have HL1 : Hid (L1.length = n) := HK1.out.len.trans HL.out
        obtain ⟨y, hy⟩ : ∃ y, L1[s]? = some y := ⟨L1[s]'(by rw [HL1.out]; exact hsl), List.getElem?_eq_getElem _⟩
        obtain ⟨g', cap', e', hcp', c0, c1, c2, c3, hfz', hxq⟩ := HK1.out.1.nod.cells hy
        injection e' with e1 e2 e3
        cases e1
        have hk0 := hj1.srcs HW.out HB.out q (t := 0) (by decide)
        have hk1 := hj1.srcs HW.out HB.out q (t := 1) (by decide)
        rw [← Hs.out, nd_p hy] at hk0 hk1
        have HK0 : Hid (y.a = ix G (1, q ++ [0])) := hk0
        have HKb : Hid (y.b = ix G (1, q ++ [1])) := hk1
        obtain ⟨F0, _⟩ := blk2 HK1.out.1.blk
        clear hxq e2 e3 hcp' c2 c3 hfz' cap' hk0 hk1 hj1 hy
        go_wp2_with (fail)
        clear c0 c1 F0
        go_loopw [34] (fun vi wr => ∃ (i : Nat) (L2 : List Gn), i ≤ 2 ∧ vi = .int .i64 (i : Int) ∧ Hid (Lnk w wr F g n cap lv L L2) ∧ Hid (JT N0 (L2.map Gn.p) G B D q i)) (fun vi _ => 2 - (intOf vi).toNat)
        case atStart => exact ⟨0, L1, Nat.zero_le _, rfl, HK1, ⟨fun _ => HJ1.out, fun e => by omega, fun e => by omega⟩⟩
        case round =>
          obtain ⟨i, L2, hi, rfl, HK, HT⟩ := hrel
          have HL2 : Hid (L2.length = n) := HK.out.len.trans HL.out
          rcases (show i = 0 ∨ i = 1 ∨ i = 2 by omega) with rfl | rfl | rfl
          · simp only [z00]
            have hix := idx0 y.a y.b
            have hI := IH (q ++ [0]) y.a b L2 wr (fun p => D p ∨ p = q) (by simp; omega) HK.out.1 HL2.out (HT.out.1 rfl) (fun j hj => by
              have hj' : j < q.length + 1 := by simpa using hj
              by_cases e : j = q.length
              · exact .inr (by rw [e, List.take_left])
              · exact .inl (by rw [List.take_append_of_le_length (by omega)]; exact HD1.out j (by omega))) (fun p hp hd => by
              rcases hd with hd | rfl
              · exact HD2.out p ((List.prefix_append _ _).trans hp) hd
              · have hle := hp.length_le
                rw [List.length_append] at hle
                simp only [List.length_cons, List.length_nil] at hle
                omega) HK0.out (by
              rw [List.length_append]
              exact (Hab.out 0).symm)
            clear HT
            go_wp2_with (go_at_call 95; fail)
            refine hI.mono ?_
            rintro e w4 ⟨rfl, L4, hk4, hu4⟩
            have HK2 : Hid (Lnk w w4 F g n cap lv L L4) := HK.out.trans hk4
            have HT2 : Hid (JT N0 (L4.map Gn.p) G B D q 1) := ⟨fun e => by omega, fun _ => hu4, fun e => by omega⟩
            clear hk4 hu4 hI HK
            go_wp2_with (fail)
            go_roundw
            case rel => exact ⟨1, _, by omega, by go_num, HK2, HT2⟩
            case measure => simp [intOf]
          · simp only [z11]
            have hix := idx1 y.a y.b
            have hI := IH (q ++ [1]) y.b b L2 wr (fun p => (D p ∨ p = q) ∨ (q ++ [0]) <+: p) (by simp; omega) HK.out.1 HL2.out (HT.out.2.1 rfl) (fun j hj => by
              have hj' : j < q.length + 1 := by simpa using hj
              by_cases e : j = q.length
              · exact .inl (.inr (by rw [e, List.take_left]))
              · exact .inl (.inl (by rw [List.take_append_of_le_length (by omega)]; exact HD1.out j (by omega)))) (fun p hp hd => by
              rcases hd with (hd | rfl) | hd
              · exact HD2.out p ((List.prefix_append _ _).trans hp) hd
              · have hle := hp.length_le
                rw [List.length_append] at hle
                simp only [List.length_cons, List.length_nil] at hle
                omega
              · obtain ⟨u, hu⟩ := hp
                obtain ⟨v, hv⟩ := hd
                rw [← hu] at hv
                simp at hv) HKb.out (by
              rw [List.length_append]
              exact (Hab.out 1).symm)
            clear HT
            go_wp2_with (go_at_call 95; fail)
            refine hI.mono ?_
            rintro e w4 ⟨rfl, L4, hk4, hu4⟩
            have HK2 : Hid (Lnk w w4 F g n cap lv L L4) := HK.out.trans hk4
            have HT2 : Hid (JT N0 (L4.map Gn.p) G B D q 2) := ⟨fun e => by omega, fun e => by omega, fun _ => hu4⟩
            clear hk4 hu4 hI HK
            go_wp2_with (fail)
            go_roundw
            case rel => exact ⟨2, _, by omega, by go_num, HK2, HT2⟩
            case measure => simp [intOf]
          · simp only [z22]
            have HU : Hid (Jst N0 (L2.map Gn.p) G B (fun p => D p ∨ q <+: p)) := Jst.both HW.out HB.out (HT.out.2.2 rfl)
            go_wp2_with (fail)
            go_end0
            exact ⟨rfl, L2, HK.out, HU.out⟩
      · have hcb : ((x.c : Int) != 0) = true := by rw [hxc]; simpa using hbq
        have Hab : Hid (∀ t, nf G B (q ++ [t]) [] (q.length + 1) = x.c) := fun t => by rw [hnf t, if_neg hbq, hxc]
        have hlk := linkC hw F g n cap lv q q.length (B q) hnb hnN 33 [] (B q) b L w (by simp) h hL (J.lkp hw hB hD1 hnq hbq) (hB.root q hbq) hb
        rw [← hxc] at hlk
        have HOne : Hid (∀ {N' : List Pn}, Upd G x.c (fun e => ([] : List Nat) <+: e ∧ e ≠ []) (fun e => nf G B q e (q.length + 1)) (L.map Gn.p) N' → Jst N0 N' G B (fun p => D p ∨ p = q)) := fun {N'} u => J.one hB hnq hbq (by rw [← hxc]; exact u)
        clear hnf hbq hxc J hs hb hL hD1 hD2 hnq h0 h hw hB hBc hnN
        go_enter Tryz.func95, Tryz.ntmps95
        go_wp2_with (go_at_call 106; fail)
        refine hlk.mono ?_
        rintro e w1 ⟨rfl, L1, hk1, hu1⟩
        have HK1 : Hid (Lnk w w1 F g n cap lv L L1) := hk1
        have hj1 : Jst N0 (L1.map Gn.p) G B (fun p => D p ∨ p = q) := HOne.out hu1
        clear hk1 hu1 hlk HOne c2 F0
        have HJ1 : Hid (Jst N0 (L1.map Gn.p) G B (fun p => D p ∨ p = q)) := hj1
        have HL1 : Hid (L1.length = n) := HK1.out.len.trans HL.out
        obtain ⟨y, hy⟩ : ∃ y, L1[s]? = some y := ⟨L1[s]'(by rw [HL1.out]; exact hsl), List.getElem?_eq_getElem _⟩
        obtain ⟨g', cap', e', hcp', c0, c1, c2, c3, hfz', hxq⟩ := HK1.out.1.nod.cells hy
        injection e' with e1 e2 e3
        cases e1
        have hk0 := hj1.srcs HW.out HB.out q (t := 0) (by decide)
        have hk1 := hj1.srcs HW.out HB.out q (t := 1) (by decide)
        rw [← Hs.out, nd_p hy] at hk0 hk1
        have HK0 : Hid (y.a = ix G (1, q ++ [0])) := hk0
        have HKb : Hid (y.b = ix G (1, q ++ [1])) := hk1
        obtain ⟨F0, _⟩ := blk2 HK1.out.1.blk
        clear hxq e2 e3 hcp' c2 c3 hfz' cap' hk0 hk1 hj1 hy
        go_wp2_with (fail)
        clear c0 c1 F0
        go_loopw [34] (fun vi wr => ∃ (i : Nat) (L2 : List Gn), i ≤ 2 ∧ vi = .int .i64 (i : Int) ∧ Hid (Lnk w wr F g n cap lv L L2) ∧ Hid (JT N0 (L2.map Gn.p) G B D q i)) (fun vi _ => 2 - (intOf vi).toNat)
        case atStart => exact ⟨0, L1, Nat.zero_le _, rfl, HK1, ⟨fun _ => HJ1.out, fun e => by omega, fun e => by omega⟩⟩
        case round =>
          obtain ⟨i, L2, hi, rfl, HK, HT⟩ := hrel
          have HL2 : Hid (L2.length = n) := HK.out.len.trans HL.out
          rcases (show i = 0 ∨ i = 1 ∨ i = 2 by omega) with rfl | rfl | rfl
          · simp only [z00]
            have hix := idx0 y.a y.b
            have hI := IH (q ++ [0]) y.a x.c L2 wr (fun p => D p ∨ p = q) (by simp; omega) HK.out.1 HL2.out (HT.out.1 rfl) (fun j hj => by
              have hj' : j < q.length + 1 := by simpa using hj
              by_cases e : j = q.length
              · exact .inr (by rw [e, List.take_left])
              · exact .inl (by rw [List.take_append_of_le_length (by omega)]; exact HD1.out j (by omega))) (fun p hp hd => by
              rcases hd with hd | rfl
              · exact HD2.out p ((List.prefix_append _ _).trans hp) hd
              · have hle := hp.length_le
                rw [List.length_append] at hle
                simp only [List.length_cons, List.length_nil] at hle
                omega) HK0.out (by
              rw [List.length_append]
              exact (Hab.out 0).symm)
            clear HT
            go_wp2_with (go_at_call 95; fail)
            refine hI.mono ?_
            rintro e w4 ⟨rfl, L4, hk4, hu4⟩
            have HK2 : Hid (Lnk w w4 F g n cap lv L L4) := HK.out.trans hk4
            have HT2 : Hid (JT N0 (L4.map Gn.p) G B D q 1) := ⟨fun e => by omega, fun _ => hu4, fun e => by omega⟩
            clear hk4 hu4 hI HK
            go_wp2_with (fail)
            go_roundw
            case rel => exact ⟨1, _, by omega, by go_num, HK2, HT2⟩
            case measure => simp [intOf]
          · simp only [z11]
            have hix := idx1 y.a y.b
            have hI := IH (q ++ [1]) y.b x.c L2 wr (fun p => (D p ∨ p = q) ∨ (q ++ [0]) <+: p) (by simp; omega) HK.out.1 HL2.out (HT.out.2.1 rfl) (fun j hj => by
              have hj' : j < q.length + 1 := by simpa using hj
              by_cases e : j = q.length
              · exact .inl (.inr (by rw [e, List.take_left]))
              · exact .inl (.inl (by rw [List.take_append_of_le_length (by omega)]; exact HD1.out j (by omega)))) (fun p hp hd => by
              rcases hd with (hd | rfl) | hd
              · exact HD2.out p ((List.prefix_append _ _).trans hp) hd
              · have hle := hp.length_le
                rw [List.length_append] at hle
                simp only [List.length_cons, List.length_nil] at hle
                omega
              · obtain ⟨u, hu⟩ := hp
                obtain ⟨v, hv⟩ := hd
                rw [← hu] at hv
                simp at hv) HKb.out (by
              rw [List.length_append]
              exact (Hab.out 1).symm)
            clear HT
            go_wp2_with (go_at_call 95; fail)
            refine hI.mono ?_
            rintro e w4 ⟨rfl, L4, hk4, hu4⟩
            have HK2 : Hid (Lnk w w4 F g n cap lv L L4) := HK.out.trans hk4
            have HT2 : Hid (JT N0 (L4.map Gn.p) G B D q 2) := ⟨fun e => by omega, fun e => by omega, fun _ => hu4⟩
            clear hk4 hu4 hI HK
            go_wp2_with (fail)
            go_roundw
            case rel => exact ⟨2, _, by omega, by go_num, HK2, HT2⟩
            case measure => simp [intOf]
          · simp only [z22]
            have HU : Hid (Jst N0 (L2.map Gn.p) G B (fun p => D p ∨ q <+: p)) := Jst.both HW.out HB.out (HT.out.2.2 rfl)
            go_wp2_with (fail)
            go_end0
            exact ⟨rfl, L2, HK.out, HU.out⟩
end Go.Proofs.YtgidohnikggjfaaGreat
/-
  grid's plant: the forest of a list of rules.
-/
namespace Go.Proofs.YtgidohnikggjfaaGreat
open Go.RowKit
set_option linter.unusedVariables false
set_option linter.unusedSimpArgs false

/-- What a forest has, but for its own variable. -/
structure Fr (w : World) (nv lv : Value) (N : List Gn) (LS : List (List Nat)) : Prop where
  nod : RowN w 0 nv N
  lst : ∃ C : List Int, RowI w 0 lv C ∧ C.length = pnTot LS
  len : N.length = LS.length
  src : ∀ (k : Nat) (x : Gn) (l : List Nat), N[k]? = some x → LS[k]? = some l → SrcI w x.v (ofN l)
  far : ∀ x ∈ N, ∀ k, x.v.ownBlock = some k → lv.ownBlock = some k
  ap : ∀ k, nv.ownBlock = some k → lv.ownBlock ≠ some k
theorem Fr.nil (w : World) : Fr w (.slice none 0 0) (.slice none 0 0) [] [] := ⟨RowN.nil w 0, ⟨[], RowI.nil w 0, rfl⟩, rfl, by simp, by simp, by simp [Value.ownBlock]⟩
theorem fr_stay {w w1 : World} {nv lv : Value} {N : List Gn} {LS : List (List Nat)} (h : Fr w nv lv N LS) (h1 : ∀ k, nv.ownBlock = some k → w1.heap[k]? = w.heap[k]?) (h2 : ∀ k, lv.ownBlock = some k → w1.heap[k]? = w.heap[k]?) : Fr w1 nv lv N LS := by
  obtain ⟨C, hC, hl⟩ := h.lst
  exact ⟨h.nod.stay h1, ⟨C, RowI.stay hC h2, hl⟩, h.len, fun k x l a b => (h.src k x l a b).stay (fun j e _ => h2 j (h.far x (List.mem_of_getElem? a) j e)), h.far, h.ap⟩
theorem Fr.lw {w : World} {nv lv : Value} {N : List Gn} {LS : List (List Nat)} (h : Fr w nv lv N LS) : ∀ k, lv.ownBlock = some k → k < w.heap.size := fun k e => by
  obtain ⟨C, hC, _⟩ := h.lst
  exact (hC.lt k e).2
theorem Fr.on {w w1 : World} {nv lv : Value} {N : List Gn} {LS : List (List Nat)} (h : Fr w nv lv N LS) (hb : Below w.heap.size w w1) : Fr w1 nv lv N LS :=
  fr_stay h (fun k e => hb.block k (h.nod.lt k e).2) (fun k e => hb.block k (h.lw k e))
theorem Fr.only {w w1 : World} {B : Nat} {nv lv : Value} {N : List Gn} {LS : List (List Nat)} (h : Fr w nv lv N LS) (ho : Only B w w1) (h1 : nv.ownBlock ≠ some B) (h2 : lv.ownBlock ≠ some B) : Fr w1 nv lv N LS :=
  fr_stay h (fun k e => ho.block k (fun e' => h1 (by rw [e, e']))) (fun k e => ho.block k (fun e' => h2 (by rw [e, e'])))
/-- The forest of a list. -/
def Plg (l : List Ru) (N : List Gn) (LS : List (List Nat)) : Prop := (l = [] ∧ N = [] ∧ LS = []) ∨ (l ≠ [] ∧ ∃ (N0 : List Pn) (G : List Lab) (S : List (Nat × Nat)), Sow l l.length N0 G ∧ Srs l S ∧ Jst N0 (N.map Gn.p) G (Bf N0 G) (fun _ => True) ∧ LS = (List.range N0.length).map (lstF (entL l N0 G S)))
/-- All that a forest has lies in blocks from a number on. -/
def Frn (b : Nat) (nv lv : Value) : Prop := (∀ k, nv.ownBlock = some k → b ≤ k) ∧ (∀ k, lv.ownBlock = some k → b ≤ k)
theorem RowN.two (w : World) (b : Nat) (p q : Gn) (hb : b ≤ w.heap.size) : RowN (w.alloc (.cells #[.int .i64 (p.a : Int), .int .i64 (p.b : Int), .int .i64 (p.c : Int), .slice p.ad p.n p.cap, .int .i64 (q.a : Int), .int .i64 (q.b : Int), .int .i64 (q.c : Int), .slice q.ad q.n q.cap] 109)) b (.slice (Option.some ⟨w.heap.size, 0, none⟩) 2 2) [p, q] :=
  World.ownsRow_lit w #[.int .i64 (p.a : Int), .int .i64 (p.b : Int), .int .i64 (p.c : Int), .slice p.ad p.n p.cap, .int .i64 (q.a : Int), .int .i64 (q.b : Int), .int .i64 (q.c : Int), .slice q.ad q.n q.cap] 2 hb (by simp [maxLen]) rfl
/-- What is known when the switches are laid. -/
theorem fin_fr {w3 w4 : World} {F g n cap : Nat} {lv : Value} {N0 : List Pn} {L3 L4 : List Gn} {E : List Ent} (hf : Fil w3 lv N0 L3 E) (hE : ∀ e ∈ E, e.1 < N0.length) (h : Lnk w3 w4 F g n cap lv L3 L4) : Fr w4 (.slice (some ⟨g, 0, none⟩) n cap) lv L4 ((List.range N0.length).map (lstF E)) := by
  obtain ⟨Lg, C, e1, e2, hC, hc⟩ := hf
  have hf : Fil w3 lv N0 L3 E := ⟨Lg, C, e1, e2, hC, hc⟩
  have hst : ∀ k, lv.ownBlock = some k → w4.heap[k]? = w3.heap[k]? := fun k e => h.2.1.block k (hC.lt k e).2 (fun e' => h.1.ap k (by injection e' with e'; rw [e']; rfl) e)
  have hlen : L4.length = N0.length := by rw [h.len, e2, layL_len]
  have hv : ∀ (k : Nat) (x : Gn), L4[k]? = some x → ∃ y, L3[k]? = some y ∧ x.v = y.v := fun k x hx => by
    have h1 : (L4.map Gn.v)[k]? = some x.v := by rw [List.getElem?_map, hx]; rfl
    rw [h.2.2, List.getElem?_map] at h1
    cases hy : L3[k]? with
    | none => rw [hy] at h1; simp at h1
    | some y => rw [hy] at h1; exact ⟨y, rfl, (Option.some.inj h1).symm⟩
  have hfar : ∀ (k : Nat) (y : Gn), L3[k]? = some y → y.v.ownBlock = some Lg := fun k y hy => by
    have hk : k < N0.length := by have := pn_lt hy; rwa [e2, layL_len] at this
    rw [e2, layL_at hk] at hy
    cases hy; rfl
  refine ⟨h.1.nod, ⟨C, RowI.stay hC hst, by rw [hc.len, tot_off, offE_all hE]⟩, by simp [hlen], fun k x l hx hl => ?_, fun x hx k e => ?_, h.1.ap⟩
  · obtain ⟨y, hy, e⟩ := hv k x hx
    rw [List.getElem?_map] at hl
    have hk : k < N0.length := by rw [← hlen]; exact pn_lt hx
    rw [List.getElem?_range hk] at hl
    obtain rfl : lstF E k = l := Option.some.inj hl
    have hs := hf.src hy
    rw [← e] at hs
    refine hs.stay (fun j ej _ => hst j ?_)
    rw [e, hfar k y hy] at ej
    rw [e1, ← ej]; rfl
  · obtain ⟨i, hi⟩ := List.mem_iff_getElem?.1 hx
    obtain ⟨y, hy, e'⟩ := hv i x hi
    rw [e', hfar i y hy] at e
    rw [e1, ← e]; rfl
set_option maxHeartbeats 8000000 in
set_option maxRecDepth 20000 in
theorem plantC (l : List Ru) (v : Value) (w : World) (hs : SrcU w v l) (hl : l.length ≤ 64) (ok : OkA l) :
    Calls Tryz.prog 76 #[v] w fun e w' => ∃ (nv lv : Value) (N : List Gn) (LS : List (List Nat)), e = .returned (.agg #[nv, lv]) ∧ Fr w' nv lv N LS ∧ Plg l N LS ∧ Frn w.heap.size nv lv ∧ Below w.heap.size w w' := by
  by_cases hne : l = []
  · subst hne
    obtain ⟨ad, cap, rfl, _⟩ := hs
    have HB2 : Hid (Below w.heap.size w (w.alloc (.cells #[.slice none 0 0, .slice none 0 0] 76))) := (Below.refl _ _).alloc (Nat.le_refl _) _
    have h0 : (w.alloc (.cells #[.slice none 0 0, .slice none 0 0] 76)).heap[w.heap.size]? = some (.cells #[.slice none 0 0, .slice none 0 0] 76 (0, 0)) := blk_new w _
    go_enter Tryz.func76, Tryz.ntmps76
    go_wp2_with (refine wpList_store_blk rfl 76 (.tmp 2) (.tmp 7) rfl w.heap.size 0 #[.slice none 0 0, .slice none 0 0] #[.slice none 0 0, .slice none 0 0] rfl rfl 76 _ h0 (Nat.le_of_ble_eq_true rfl) rfl (by kernel_rfl) rfl ?_; intro w8 hw8 how8)
    refine bodyPost_ret (results_blk Tryz.results76 rfl hw8 Tryz.underlying76 rfl (by kernel_rfl)) rfl ?_
    exact ⟨_, _, [], [], rfl, Fr.nil w8, .inl ⟨rfl, rfl, rfl⟩, ⟨by simp [Value.ownBlock], by simp [Value.ownBlock]⟩, HB2.out.trans (how8.below (Nat.le_refl _))⟩
  · have hpos : 0 < l.length := List.length_pos_iff.2 hne
    have HS0 : Hid (SrcU w v l) := hs
    have Hok : Hid (OkA l) := ok
    have Hl : Hid (l.length ≤ 64) := hl
    have Hne : Hid (l ≠ []) := hne
    obtain ⟨ad, cap, rfl, hcp, hat⟩ := hs
    obtain ⟨g, off, rfl, h3⟩ := hat hpos
    have hgl : g < w.heap.size := World.block_lt_of_cell? w _ (h3 0 hpos 0 (by decide))
    obtain ⟨n, hn⟩ : ∃ n, n = l.length := ⟨_, rfl⟩
    rw [← hn] at HS0 ⊢
    have Hn : Hid (n = l.length) := hn
    have hni : ((n : Int) == 0) = false := by rw [beq_eq_false_iff_ne]; omega
    obtain ⟨w0, hw0⟩ : ∃ w0, w0 = ((w.alloc (.cells #[.slice none 0 0, .slice none 0 0] 76)).alloc (.cells #[.int .i64 0, .int .i64 0, .int .i64 0, .slice none 0 0, .int .i64 0, .int .i64 0, .int .i64 0, .slice none 0 0] 109)).alloc (.cells #[.slice (some ⟨w.heap.size + 1, 0, none⟩) 2 2, .slice none 0 0] 76) := ⟨_, rfl⟩
    have hsz0 : w0.heap.size = w.heap.size + 1 + 1 + 1 := by rw [hw0]; simp
    have HB0 : Hid (Below w.heap.size w w0) := by rw [hw0]; exact (((Below.refl _ _).alloc (Nat.le_refl _) _).alloc (by simp) _).alloc (by simp; omega) _
    have HR0 : Hid (w0.heap[w.heap.size]? = some (.cells #[.slice none 0 0, .slice none 0 0] 76 (0, 0))) := by rw [hw0]; exact blk_alloc (blk_alloc (blk_new w _) _) _
    have hF0 : w0.heap[w.heap.size + 1 + 1]? = some (.cells #[.slice (some ⟨w.heap.size + 1, 0, none⟩) 2 2, .slice none 0 0] 76 (0, 0)) := by
      have := blk_new ((w.alloc (.cells #[.slice none 0 0, .slice none 0 0] 76)).alloc (.cells #[.int .i64 0, .int .i64 0, .int .i64 0, .slice none 0 0, .int .i64 0, .int .i64 0, .int .i64 0, .slice none 0 0] 109)) (.cells #[.slice (some ⟨w.heap.size + 1, 0, none⟩) 2 2, .slice none 0 0] 76)
      rw [← hw0] at this
      simpa using this
    have hN0 : RowN w0 0 (.slice (some ⟨w.heap.size + 1, 0, none⟩) 2 2) ([pz, pz].map mk0) := by
      have := (RowN.two (w.alloc (.cells #[.slice none 0 0, .slice none 0 0] 76)) 0 (mk0 pz) (mk0 pz) (Nat.zero_le _)).alloc (.cells #[.slice (some ⟨w.heap.size + 1, 0, none⟩) 2 2, .slice none 0 0] 76)
      rw [hw0]
      have hsz : (w.alloc (.cells #[.slice none 0 0, .slice none 0 0] 76)).heap.size = w.heap.size + 1 := by simp
      rw [hsz] at this
      exact this
    have HF0 : Hid (Fs w0 (w.heap.size + 1 + 1) (.slice (some ⟨w.heap.size + 1, 0, none⟩) 2 2) (.slice none 0 0) ([pz, pz].map mk0)) := ⟨hF0, hN0, by simp [Value.ownBlock], by simp [Value.ownBlock], fun e => by have e : w.heap.size + 1 = w.heap.size + 1 + 1 := Option.some.inj e; omega, by simp [Value.ownBlock]⟩
    have hOw : ∀ k, Own (w.heap.size + 1 + 1) (.slice (some ⟨w.heap.size + 1, 0, none⟩) 2 2) (.slice none 0 0) k → w.heap.size < k := by
      rintro k (e | e | e)
      · omega
      · have e : w.heap.size + 1 = k := Option.some.inj e
        omega
      · simp [Value.ownBlock] at e
    have HOw : Hid _ := hOw
    have HK0 : Hid (Kf w0 (w.heap.size + 1 + 1) (.slice (some ⟨w.heap.size + 1, 0, none⟩) 2 2) (.slice none 0 0) w.heap.size (.cells #[.slice none 0 0, .slice none 0 0] 76 (0, 0))) := ⟨HR0.out, fun o => by have := hOw _ o; omega⟩
    have HV0 : Hid (Ku w0 (w.heap.size + 1 + 1) (.slice (some ⟨w.heap.size + 1, 0, none⟩) 2 2) (.slice none 0 0) (.slice (some ⟨g, off, none⟩) n cap) l) := by
      refine ⟨HS0.out.keep HB0.out, fun k e => ?_, fun k e o => ?_⟩
      · have e : g = k := Option.some.inj e
        omega
      · have e : g = k := Option.some.inj e
        have := hOw _ o; omega
    have hw0s : Hid (((w.alloc (.cells #[.slice none 0 0, .slice none 0 0] 76)).alloc (.cells #[.int .i64 0, .int .i64 0, .int .i64 0, .slice none 0 0, .int .i64 0, .int .i64 0, .int .i64 0, .slice none 0 0] 109)).alloc (.cells #[.slice (some ⟨w.heap.size + 1, 0, none⟩) 2 2, .slice none 0 0] 76) = w0) := hw0.symm
    obtain ⟨F, hF⟩ : ∃ F, F = w.heap.size + 1 + 1 := ⟨_, rfl⟩
    have HFge : Hid (w.heap.size < F) := by show _ < _; omega
    have hsow := sowC (w.heap.size + 1 + 1) _ _ _ l w0 HF0.out HV0.out Hl.out Hok.out
    have hFs : Hid (w.heap.size + 1 + 1 = F) := hF.symm
    rw [← hF] at hsow HF0 HK0 HV0 HOw
    have Hsz0 : Hid (w.heap.size ≤ w0.heap.size) := HB0.out.size
    clear hw0 hF0 h3 hcp hpos hn hl ok hne hat hN0 hOw hF hsz0
    go_enter Tryz.func76, Tryz.ntmps76
    go_wp2_with (go_at_call 92; fail)
    rw [hw0s.out, hFs.out]
    refine hsow.mono ?_
    rintro e w1 ⟨rfl, N, ⟨G, hS1⟩, nv1, hf1, hm1⟩
    have HS1 : Hid (Sow l l.length N G) := hS1
    have HF1 : Hid (Fs w1 F nv1 (.slice none 0 0) (N.map mk0)) := hf1
    have HM1 : Hid (Fm w0 w1 F (.slice (some ⟨w.heap.size + 1, 0, none⟩) 2 2) (.slice none 0 0) nv1 (.slice none 0 0)) := hm1
    have HV1 : Hid (Ku w1 F nv1 (.slice none 0 0) (.slice (some ⟨g, off, none⟩) n cap) l) := HV0.out.moved hm1
    have HK1 : Hid (Kf w1 F nv1 (.slice none 0 0) w.heap.size (.cells #[.slice none 0 0, .slice none 0 0] 76 (0, 0))) := HK0.out.moved hm1
    have HB1 : Hid (Below w.heap.size w w1) := HB0.out.trans (hm1.below Hsz0.out (fun k o => Nat.le_of_lt (HOw.out k o)))
    have HO1 : Hid (∀ k, Own F nv1 (.slice none 0 0) k → w.heap.size ≤ k) := hm1.ge Hsz0.out (fun k o => Nat.le_of_lt (HOw.out k o))
    have hent := entriesC F nv1 _ N G l w1 hf1.fo HV1.out.1 hS1 Hok.out Hl.out
    clear hf1 hm1 hS1 hsow hw0s hFs HK0 HV0 HF0 HOw HM1
    go_wp2_with (go_at_call 94; fail)
    refine hent.mono ?_
    rintro e w2 ⟨v2, u, rfl, hsr, hr2, hb2⟩
    have HSr : Hid (Srs l u) := hsr
    have HF2 : Hid (Fs w2 F nv1 (.slice none 0 0) (N.map mk0)) := HF1.out.on hb2
    have HK2 : Hid (Kf w2 F nv1 (.slice none 0 0) w.heap.size (.cells #[.slice none 0 0, .slice none 0 0] 76 (0, 0))) := HK1.out.on hb2
    have HB2 : Hid (Below w.heap.size w w2) := bel_of HB1.out hb2 HB1.out.size
    have HE : Hid (∀ e ∈ entL l N G u, e.1 < N.length ∧ e.2 < 64) := fun e he => by
      have := ent_lt (l := l) (S := u) HS1.out.gw e he
      exact ⟨this.1, by have := Hl.out; omega⟩
    have hEl : (entL l N G u).length ≤ 100000 := Nat.le_trans (entL_len l N G u) (Nat.le_trans (Nat.mul_le_mul (Nat.le_trans (srs_len hsr) Hl.out) Hl.out) (by decide))
    have hNs := HS1.out.small Hl.out
    have hfil := fillC F nv1 (.slice none 0 0) v2 N (entL l N G u) w2 HF2.out ⟨hr2.src, fun k e => (hr2.lt k e).2, fun k e o => by have := HF1.out.own o; have := (hr2.lt k e).1; omega⟩ HE.out hEl hNs
    obtain ⟨a2, c2, rfl, _⟩ := hr2.form
    clear hsr hr2 hb2 hent HF1 HK1 HB1 HV1
    go_wp2_with (go_at_call 93; fail)
    refine hfil.mono ?_
    rintro e w3 ⟨rfl, lv3, L3, hf3, hm3, hfl3⟩
    have HF3 : Hid (Fs w3 F nv1 lv3 L3) := hf3
    have HFl3 : Hid (Fil w3 lv3 N L3 (entL l N G u)) := hfl3
    have HK3 : Hid (Kf w3 F nv1 lv3 w.heap.size (.cells #[.slice none 0 0, .slice none 0 0] 76 (0, 0))) := HK2.out.moved hm3
    have HB3 : Hid (Below w.heap.size w w3) := HB2.out.trans (hm3.below HB2.out.size HO1.out)
    have HO3 : Hid (∀ k, Own F nv1 lv3 k → w.heap.size ≤ k) := hm3.ge HB2.out.size HO1.out
    have hp3 : L3.map Gn.p = N := by obtain ⟨Lg, C, _, e2, _⟩ := hfl3; rw [e2]; exact layL_p _ _ _ _
    have hl3 : L3.length = N.length := by rw [← hp3, List.length_map]
    have hNpos : 0 < L3.length := by rw [hl3, HS1.out.gw.wf.len]; exact pn_lt HS1.out.gw.z
    obtain ⟨gn, capn, hnv, _, _, _⟩ := hf3.nod.some hNpos
    rw [hl3] at hnv
    obtain ⟨m, hm⟩ : ∃ m, m = N.length := ⟨_, rfl⟩
    rw [← hm] at hnv
    subst hnv
    have hjn := joinC HS1.out.gw HS1.out.bk (fun q => rfl) F gn m capn lv3 (by rw [hm]; exact hNs) hm 33 [] 1 0 L3 w3 (fun _ => False) (by simp) hf3 (by rw [hl3, hm]) (by rw [hp3]; exact Jst.zero N G _) (fun j hj => by simp at hj) (fun _ _ h => h) (HS1.out.gw.ix_of HS1.out.gw.r1).symm rfl
    clear hf3 hm3 hfl3 hfil HF2 HK2 HB2 HO1 hp3 hl3 hNpos hEl hm
    go_wp2_with (go_at_call 95; fail)
    refine hjn.mono ?_
    rintro e w4 ⟨rfl, L4, hk4, hj4⟩
    have HFr : Hid (Fr w4 (.slice (some ⟨gn, 0, none⟩) m capn) lv3 L4 ((List.range N.length).map (lstF (entL l N G u)))) := fin_fr HFl3.out (fun e he => (HE.out e he).1) hk4
    have HPl : Hid (Plg l L4 ((List.range N.length).map (lstF (entL l N G u)))) := .inr ⟨Hne.out, N, G, u, HS1.out, HSr.out, hj4.weak (fun q _ => .inl (.inr List.nil_prefix)) (fun _ _ => trivial), rfl⟩
    have hgn : w.heap.size ≤ gn := HO3.out gn (.inr (.inl rfl))
    have HB4 : Hid (Below w.heap.size w w4) := HB3.out.grown hk4.2.1 HB3.out.size (fun k e => by injection e with e; omega)
    have HR4 : Hid (w4.heap[w.heap.size]? = some (.cells #[.slice none 0 0, .slice none 0 0] 76 (0, 0))) := (hk4.2.1.block _ (blk_lt HK3.out.1) (fun e => HK3.out.2 (.inr (.inl (by injection e with e; rw [e]; rfl))))).trans HK3.out.1
    obtain ⟨F40, F41⟩ := blk2 hk4.1.blk
    have HFrn : Hid (Frn w.heap.size (.slice (some ⟨gn, 0, none⟩) m capn) lv3) := ⟨fun k e => HO3.out k (.inr (.inl e)), fun k e => HO3.out k (.inr (.inr e))⟩
    have HnR : Hid (gn ≠ w.heap.size ∧ lv3.ownBlock ≠ some w.heap.size) := ⟨fun e => HK3.out.2 (.inr (.inl (by rw [e]; rfl))), fun e => HK3.out.2 (.inr (.inr e))⟩
    obtain ⟨C, hC, _⟩ := HFr.out.lst
    obtain ⟨adl, capl, hlv, _⟩ := hC.form
    generalize C.length = nl at hlv
    have hFR : ¬ w.heap.size = F := by have := HFge.out; omega
    subst hlv
    clear hC hk4 hj4 hjn HF3 HFl3 HK3 HB3 HO3 hgn
    go_wp2_with (refine wpList_store_blk rfl 76 (.tmp 2) (.tmp 18) rfl w.heap.size 0 #[.slice (some ⟨gn, 0, none⟩) m capn, .slice adl nl capl] #[.slice (some ⟨gn, 0, none⟩) m capn, .slice adl nl capl] rfl rfl 76 _ HR4.out (Nat.le_of_ble_eq_true rfl) rfl (by kernel_rfl) rfl ?_; intro w8 hw8 how8)
    refine bodyPost_ret (results_blk Tryz.results76 rfl hw8 Tryz.underlying76 rfl (by kernel_rfl)) rfl ?_
    exact ⟨_, _, L4, _, rfl, HFr.out.only how8 (fun e => HnR.out.1 (Option.some.inj e)) HnR.out.2, HPl.out, HFrn.out, HB4.out.trans (how8.below (Nat.le_refl _))⟩
end Go.Proofs.YtgidohnikggjfaaGreat
/-
  grid's size, path and find.
-/
namespace Go.Proofs.YtgidohnikggjfaaGreat
open Go.RowKit
set_option linter.unusedVariables false
set_option linter.unusedSimpArgs false

set_option maxHeartbeats 1000000 in
theorem sizeC (B o : Nat) (nv : Value) (N : List Gn) (w : World) (h : Fo w B o nv N) (hN : N.length ≤ 4200) :
    Calls Tryz.prog 23 #[.pointer (some ⟨B, o, none⟩)] w fun e w' => e = .returned (.int .i64 ((N.length - 1 : Nat) : Int)) ∧ w' = w := by
  have c0 := h.c0
  obtain ⟨ad, cap, hnv, _, _⟩ := h.nod.form
  obtain ⟨n, hn⟩ : ∃ n, n = N.length := ⟨_, rfl⟩
  rw [← hn] at hnv hN ⊢
  subst hnv
  clear h hn
  have hn0 : (n : Int) ≤ 4200 := by omega
  rcases Nat.eq_zero_or_pos n with e | e
  · subst e
    go_enter Tryz.func23, Tryz.ntmps23
    go_wp2_with (fail)
    go_ret
    exact ⟨rfl, rfl⟩
  · obtain ⟨m, rfl⟩ : ∃ m, n = m + 1 := ⟨n - 1, by omega⟩
    have hs : ((m + 1 - 1 : Nat) : Int) = (m : Int) := by omega
    rw [hs]
    have hm1 : ((m : Int) + 1) - 1 = (m : Int) := by omega
    go_enter Tryz.func23, Tryz.ntmps23
    go_wp2_with (fail)
    go_ret
    exact ⟨rfl, rfl⟩
def slen : Value → Nat
  | .slice _ n _ => n
  | _ => 0
set_option maxHeartbeats 4000000 in
set_option maxRecDepth 20000 in
theorem pathC (B o : Nat) (nv : Value) (N : List Gn) (f : Nat → Nat) (r a : Nat) (w : World) (h : Fo w B o nv N) (hW : Way (N.map Gn.p) a f) (hr : f 0 = r) (ha : a < 4294967296) (hN : N.length ≤ 4200) :
    Calls Tryz.prog 37 #[.pointer (some ⟨B, o, none⟩), .int .i64 (r : Int), .int .u32 (a : Int)] w fun e w' => ∃ v' : Value, e = .returned v' ∧ RowI w' w.heap.size v' (ofN (wy (N.map Gn.p) a 33 r 0)) ∧ Below w.heap.size w w' := by
  have HF : Hid (Fo w B o nv N) := h
  have HW : Hid (Way (N.map Gn.p) a f) := hW
  have Hr : Hid (r = f 0) := hr.symm
  obtain ⟨R, hR⟩ : ∃ R, R = wy (N.map Gn.p) a 33 r 0 := ⟨_, rfl⟩
  rw [← hR]
  have HR0 : Hid (R = [] ++ wy (N.map Gn.p) a (33 - 0) r 0) := hR
  obtain ⟨n, hn⟩ : ∃ n, n = N.length := ⟨_, rfl⟩
  have Hn : Hid (n = N.length) := hn
  have hnb : (n : Int) ≤ 4200 := by omega
  obtain ⟨ad, cap, hnv, _, _⟩ := h.nod.form
  rw [← hn] at hnv
  subst hnv
  clear h hW hr hR hn hN
  go_enter Tryz.func37, Tryz.ntmps37
  go_wp2_with (fail)
  go_loopw [7, 8] (fun sv va wr => ∃ (k t : Nat) (vs : Value) (acc : List Nat), k ≤ 33 ∧ vs = sv ∧ va = .int .i64 (t : Int) ∧ Hid (acc.length = k) ∧ Hid (t = f k) ∧ Hid (R = acc ++ wy (N.map Gn.p) a (33 - k) t k) ∧ Hid (RowI wr w.heap.size vs (ofN acc)) ∧ Hid (Below w.heap.size w wr)) (fun sv _ _ => 40 - slen sv)
  case atStart => exact ⟨0, r, _, [], Nat.zero_le _, rfl, rfl, rfl, Hr, HR0, RowI.nil _ _, Below.refl _ _⟩
  case round =>
    obtain ⟨k, t, vs, acc, hk, rfl, rfl, Hlen, Ht, HE, HRw, HB⟩ := hrel
    by_cases h0 : t = 0
    · have hz : ((t : Int) != 0) = false := by rw [h0]; rfl
      have HRf : Hid (RowI wr w.heap.size vs (ofN R)) := by
        show RowI wr w.heap.size vs (ofN R)
        rw [HE.out, h0, wy_zero, List.append_nil]
        exact HRw.out
      clear HRw HE h0
      go_wp2_with (fail)
      go_ret
      exact ⟨_, rfl, HRf.out, HB.out⟩
    · have hz : ((t : Int) != 0) = true := by simpa using h0
      have hk33 : k < 33 := by
        apply Classical.byContradiction
        intro e
        have : k = 33 := by omega
        subst this
        exact h0 (Ht.out.trans HW.out.last)
      have hfu : 33 - k = (32 - k) + 1 := by omega
      have e33 : 33 - (k + 1) = 32 - k := by omega
      have hE1 := HE.out
      rw [hfu, wy_step _ _ _ _ h0] at hE1
      have hgo := HW.out.go k hk33
      rw [← Ht.out] at hgo
      have htl : t < N.length := by have := HW.out.lt k; rw [← Ht.out, List.length_map] at this; exact this
      obtain ⟨x, hx⟩ : ∃ x, N[t]? = some x := ⟨N[t], List.getElem?_eq_getElem htl⟩
      rw [nd_p hx] at hgo hE1
      have hA := fun W => atBC a k W ha (by omega)
      obtain ⟨adv, capv, hvs, hat⟩ := HRw.out.form
      rw [ofN_len, Hlen.out] at hvs
      subst hvs
      have hti : (t : Int) < (n : Int) := by have := Hn.out; omega
      have hb2 := btv_lt a k
      have HCell : Hid (∀ W, Below w.heap.size w W → ∃ g, ad = some ⟨g, 0, none⟩ ∧ W.cell? ⟨B, o, none⟩ = some (.slice ad n cap) ∧ W.cell? ⟨g, t * 4, none⟩ = some (.int .i64 (x.a : Int)) ∧ W.cell? ⟨g, t * 4 + 1, none⟩ = some (.int .i64 (x.b : Int))) := fun W hb => by
        obtain ⟨g, cap', e, _, c0, c1, _, _, _, _⟩ := (HF.out.on hb).nod.cells hx
        injection e with e1 e2 e3
        exact ⟨g, e1, (HF.out.on hb).c0, c0, c1⟩
      obtain ⟨g, hg, _, _, _⟩ := HCell.out wr HB.out
      subst hg
      have HAcc : Hid (ofN (acc ++ [t]) = ofN acc ++ [(t : Int)]) := by show ofN (acc ++ [t]) = _; simp [ofN]
      have HEn : Hid (R = (acc ++ [t]) ++ wy (N.map Gn.p) a (33 - (k + 1)) (x.p.kid (btv a k)) (k + 1)) := by
        show R = _
        rw [hE1, e33, List.append_assoc]; rfl
      have HGo : Hid (x.p.kid (btv a k) = f (k + 1)) := hgo
      have HLn : Hid ((ofN acc).length + 1 ≤ 4294967296) := by show _ ≤ _; rw [ofN_len, Hlen.out]; omega
      have hki : (k : Int) ≤ 33 := by omega
      clear hE1 hgo hfu e33 hat hx HE Ht h0
      rcases (show btv a k = 0 ∨ btv a k = 1 by omega) with hbt | hbt
      · rw [hbt] at hA HEn HGo
        have HEn2 : Hid (R = (acc ++ [t]) ++ wy (N.map Gn.p) a (33 - (k + 1)) x.a (k + 1)) := HEn.out
        have HGo2 : Hid (x.a = f (k + 1)) := HGo.out
        clear HEn HGo
        go_wp2_with (first | (go_at_call 55; refine (hA _).mono ?_; rintro e w4 ⟨er, rfl, hw4⟩; obtain rfl := hw4.symm; clear hw4) | (at_builtin; refine wpList_appendI rfl (.tmp 21) (.tmp 23) rfl w.heap.size _ (ofN acc) rfl (HRw.out.on ((Below.refl _ _).alloc (Nat.le_refl _) _)) wr.heap.size (t : Int) rfl (blk_cell (blk_new wr _) rfl) (Nat.le_trans HB.out.size (by simp)) HLn.out ?_; intro v6 w6 hr6 hg6; have HB6 : Hid (Below w.heap.size w w6) := (HB.out.alloc HB.out.size _).grown hg6 (Nat.le_trans HB.out.size (by simp)) (fun q hq => (HRw.out.lt q hq).1); obtain ⟨g6, eg6, f6, c06, c16⟩ := HCell.out w6 HB6.out; cases eg6))
        have HR6 : Hid (RowI w6 w.heap.size v6 (ofN (acc ++ [t]))) := by rw [HAcc.out]; exact hr6
        have HL6 : Hid ((acc ++ [t]).length = k + 1) := by show _ = _; rw [List.length_append, Hlen.out]; rfl
        have hs6 : slen v6 = k + 1 := by obtain ⟨_, _, e, _⟩ := HR6.out.form; rw [e]; show (ofN (acc ++ [t])).length = _; rw [ofN_len]; exact HL6.out
        go_roundw
        case rel => exact ⟨k + 1, x.a, v6, acc ++ [t], by omega, rfl, rfl, HL6, HGo2, HEn2, HR6, HB6⟩
        case measure => rw [hs6]; simp [slen]; omega
      · rw [hbt] at hA HEn HGo
        have HEn2 : Hid (R = (acc ++ [t]) ++ wy (N.map Gn.p) a (33 - (k + 1)) x.b (k + 1)) := HEn.out
        have HGo2 : Hid (x.b = f (k + 1)) := HGo.out
        clear HEn HGo
        go_wp2_with (first | (go_at_call 55; refine (hA _).mono ?_; rintro e w4 ⟨er, rfl, hw4⟩; obtain rfl := hw4.symm; clear hw4) | (at_builtin; refine wpList_appendI rfl (.tmp 21) (.tmp 23) rfl w.heap.size _ (ofN acc) rfl (HRw.out.on ((Below.refl _ _).alloc (Nat.le_refl _) _)) wr.heap.size (t : Int) rfl (blk_cell (blk_new wr _) rfl) (Nat.le_trans HB.out.size (by simp)) HLn.out ?_; intro v6 w6 hr6 hg6; have HB6 : Hid (Below w.heap.size w w6) := (HB.out.alloc HB.out.size _).grown hg6 (Nat.le_trans HB.out.size (by simp)) (fun q hq => (HRw.out.lt q hq).1); obtain ⟨g6, eg6, f6, c06, c16⟩ := HCell.out w6 HB6.out; cases eg6))
        have HR6 : Hid (RowI w6 w.heap.size v6 (ofN (acc ++ [t]))) := by rw [HAcc.out]; exact hr6
        have HL6 : Hid ((acc ++ [t]).length = k + 1) := by show _ = _; rw [List.length_append, Hlen.out]; rfl
        have hs6 : slen v6 = k + 1 := by obtain ⟨_, _, e, _⟩ := HR6.out.form; rw [e]; show (ofN (acc ++ [t])).length = _; rw [ofN_len]; exact HL6.out
        go_roundw
        case rel => exact ⟨k + 1, x.b, v6, acc ++ [t], by omega, rfl, rfl, HL6, HGo2, HEn2, HR6, HB6⟩
        case measure => rw [hs6]; simp [slen]; omega
end Go.Proofs.YtgidohnikggjfaaGreat
