/-
  LexEnds, walked: a scanner to its end, against All. Written by tools/mkLxLe.py.
-/
import Derived.Test.YtpbbeemlaigimaaDoorLxDb
import Derived.Test.YtpbbeemlaigimaaDoorLxCu
import Derived.Test.YtpbbeemlaigimaaDoorLxEr
import Derived.Deep.DeepCutAuto
namespace Go.Proofs.YtpbbeemlaigimaaDoor
open Go.RowKit
set_option linter.unusedVariables false
set_option linter.unusedSimpArgs false

structure Ends (w0 w : World) (S : Nat) (v : Value) (L : List Tk) (er : Wr) (k : Nat) (u : Value) (M : List Tk) : Prop where
  bel : Below w0.heap.size w0 w
  s : Scn w S v k er
  r : RowT w 0 v L
  ru : RowT w 0 u M
  hnd : Hnd w
  pw : Pw w
  ne : some S ≠ v.ownBlock
  nu : some S ≠ u.ownBlock
  lS : w0.heap.size ≤ S
  g0 : 4 < w0.heap.size
theorem Ends.on {w0 w w1 : World} {S : Nat} {v u : Value} {L M : List Tk} {er : Wr} {k : Nat} (h : Ends w0 w S v L er k u M) (hb : Below w.heap.size w w1) : Ends w0 w1 S v L er k u M :=
  ⟨h.bel.trans (hb.mono h.bel.size), blk_on h.s hb, h.r.on hb, h.ru.on hb, h.hnd.on hb, h.pw.on hb, h.ne, h.nu, h.lS, h.g0⟩
theorem Ends.step {w0 w w1 : World} {S : Nat} {v u : Value} {L M : List Tk} {er : Wr} {k k' : Nat} (h : Ends w0 w S v L er k u M) (hb : But S w w1) (hs : Scn w1 S v k' er) : Ends w0 w1 S v L er k' u M := by
  have h1 := h.g0
  have h2 := h.lS
  obtain ⟨t, fr, hp⟩ := h.pw
  exact ⟨h.bel.trans (hb.below h.lS h.bel.size), hs, hb.row h.r h.ne, hb.row h.ru h.nu, hb.cell h.hnd (by omega), ⟨t, fr, hb.blk hp (by omega)⟩, h.ne, h.nu, h.lS, h.g0⟩
theorem okW_le {e : Wr} (h : OkW 65536 e) : e.e ≤ 1000000 ∧ e.l ≤ 1000000 ∧ e.c ≤ 1000000 := by
  rcases h.e with rfl | h
  · exact ⟨by decide, by decide, by decide⟩
  · omega
theorem neqT0 (w : World) : Sem.run Tryd.prog (binOp .neq 38 (.agg #[.int .i64 0, .string ⟨#[]⟩, .int .u32 0, .int .i64 0, .int .i64 0]) (.agg #[.int .i64 0, .string ⟨#[]⟩, .int .u32 0, .int .i64 0, .int .i64 0])) w = .ok (.bool false) w := by
  simp [go_sem]
set_option maxRecDepth 20000 in
set_option maxHeartbeats 8000000 in
theorem lexEnds_walk (s : ByteArray) (ws : s.size ≤ maxLen) (w : World) (hg : Hnd w) (hpw : Pw w) :
    Calls Tryd.prog 5 #[.string s] w fun e w' => e = .returned (.bool true) ∧ Below w.heap.size w w' := by
  obtain ⟨z, hz⟩ : ∃ z, z = s.size := ⟨_, rfl⟩
  have hlen := lenS s z hz
  by_cases hbig : 16777216 < s.size
  · have hbig' : (16777216 : Int) < (z : Int) := by omega
    clear hz hbig hg ws hpw
    go_enter Tryd.func5, Tryd.ntmps5
    go_wp2_with (fail)
    go_ret
    exact ⟨rfl, Below.refl _ _⟩
  · have hbig' : ¬ (16777216 : Int) < (z : Int) := by omega
    have hz9 : (z : Int) ≤ 16777216 := by omega
    have HSZ : Hid (s.size ≤ 16777216) := by show _ ≤ _; omega
    have hsm : (lexT s).1.length ≤ 70000 ∧ (lexT s).1.length ≤ z + 1 ∧ ((lexT s).2.e ≤ 1000000 ∧ (lexT s).2.l ≤ 1000000 ∧ (lexT s).2.c ≤ 1000000) := by
      by_cases h : s.size ≤ 65536
      · have hh := lexT_ok s h
        have hw := okW_le hh.2.2
        exact ⟨by have := hh.2.1; omega, by have := hh.2.1; omega, hw⟩
      · unfold lexT; rw [if_pos (by omega)]; exact ⟨by decide, by simp, by decide⟩
    have HG : Hid (Hnd w) := hg
    have HPw : Hid (Pw w) := hpw
    have hNw := fun W (h : Hnd W) => newC s W HSZ.out h
    have hO := fun W (h : Hnd W) => allOk s W HSZ.out h
    have hBd := fun W (h : Hnd W) => allBad s W HSZ.out h
    generalize lexT s = LL at *
    obtain ⟨L, er⟩ := LL
    dsimp only at hNw hO hBd hsm
    obtain ⟨hL7, hLz, hE3⟩ := hsm
    have HER2 : Hid (er.e ≤ 1000000 ∧ er.l ≤ 1000000 ∧ er.c ≤ 1000000) := hE3
    obtain ⟨m, hm⟩ : ∃ m, m = L.length := ⟨_, rfl⟩
    have HM : Hid (m = L.length) := hm
    rw [← hm] at hL7 hLz
    clear hz hbig hg ws hpw hE3
    by_cases he : er.e = 0
    · have HER : Hid (er.e = 0) := he
      have hA := hO w HG.out he
      clear hBd he hm
      go_enter Tryd.func5, Tryd.ntmps5
      go_wp2_with (fail)
      refine hA.mono ?_
      rintro e w1 ⟨u, rfl, hrow1, hb1⟩
      obtain ⟨uad, ucap, hu, _, _⟩ := hrow1.form
      obtain ⟨n, hn⟩ : ∃ n, n = L.length := ⟨_, rfl⟩
      have HN : Hid (n = L.length) := hn
      rw [← hn] at hu
      subst hu
      have HG1 : Hid (Hnd w1) := HG.out.on hb1
      have HB1 : Hid (Below w.heap.size w w1) := hb1
      have HR1 : Hid (RowT w1 0 (.slice uad n ucap) L) := hrow1.base (Nat.zero_le _)
      have HU1 : Hid (∀ k, (Value.slice uad n ucap).ownBlock = some k → k < w1.heap.size) := fun k hk => (hrow1.lt k hk).2
      clear hn hrow1 hb1 hA hO
      go_wp2_with (fail)
      refine (hNw _ HG1.out).mono ?_
      rintro e w2 ⟨S, v, rfl, hs2, hrv2, hl2, hn2, hb2⟩
      have HT : Hid (Ends w w2 S v L er 0 (.slice uad n ucap) L) := by
        refine ⟨HB1.out.trans (hb2.mono HB1.out.size), hs2, hrv2.base (Nat.zero_le _), HR1.out.on hb2, HG1.out.on hb2, (HPw.out.on HB1.out).on hb2, hn2, fun h => ?_, by have := HB1.out.size; omega, HG.out.lt⟩
        have := HU1.out _ h.symm; omega
      clear hs2 hrv2 hl2 hn2 hb2 hNw HU1 HR1 HB1 HG1
      go_wp2_with (fail)
      go_loopw [6] (fun nv wr => ∃ k : Nat, k ≤ m ∧ nv = .int .i64 (k : Int) ∧ Hid (Ends w wr S v L er k (.slice uad n ucap) L)) (fun nv _ => m + 1 - (intOf nv).toNat)
      case atStart => exact ⟨0, Nat.zero_le _, rfl, HT.out⟩
      case round =>
        obtain ⟨k, hkm, rfl, HT⟩ := hrel
        have hk2 : (k : Int) ≤ (z : Int) + 2 := by omega
        have hk9 : (k : Int) ≤ 200000 := by omega
        by_cases hlt : k < m
        · have hk : k < L.length := by rw [← HM.out]; exact hlt
          have hN := nextTok wr S k 0 v L er HT.out.s HT.out.r HT.out.ne hk (by have := HM.out; omega)
          obtain ⟨p, hp⟩ : ∃ p, p = L[k]'hk := ⟨_, rfl⟩
          rw [← hp] at hN
          obtain ⟨ad9, cap9, hv9, hc9, hat⟩ := HT.out.ru.form
          obtain ⟨g, hg9, _, hgl, cc⟩ := hat (by omega)
          have HUG : Hid (uad = some ⟨g, 0, none⟩) := by
            show _ = _
            rw [← hg9]
            simp only [Value.slice.injEq] at hv9
            exact hv9.1
          have HX : Hid (∀ j, j < 5 → wr.cell? ⟨g, k * 5 + j, none⟩ = (encT p)[j]?) := fun j hj => by rw [hp]; exact cc k hk j hj
          have hug := HUG.out
          have HNU : Hid (g ≠ S) := fun h => HT.out.nu (by rw [hug, h]; rfl)
          clear hv9 hc9 hat hg9 cc hgl
          subst hug
          have hlt' : (k : Int) < (n : Int) := by have := HN.out; have := HM.out; omega
          have hge' : ¬ (n : Int) ≤ (k : Int) := by omega
          have hgd : decide (n ≤ k) = false := decide_eq_false (by omega)
          have hgd2 : ¬ n ≤ k := by omega
          have hk0 : (0 : Int) ≤ (k : Int) := by omega
          have hne := neqT p
          clear hp hk
          go_wp2_with (fail)
          refine hN.mono ?_
          rintro e w4 ⟨rfl, hS4, hb4⟩
          have HS4 : Hid (Scn w4 S v (k + 1) er) := hS4
          have HB4 : Hid (But S wr w4) := hb4
          clear hb4 hS4
          have HE4 := HT.out.step HB4.out HS4.out
          have T5 : (w4.alloc (.cells #[.int .i64 (p.k : Int), .string p.t, .int .u32 (p.v : Int), .int .i64 (p.l : Int), .int .i64 (p.c : Int)] 38)).heap[w4.heap.size]? = some (.cells #[.int .i64 (p.k : Int), .string p.t, .int .u32 (p.v : Int), .int .i64 (p.l : Int), .int .i64 (p.c : Int)] 38) := blk_new w4 _
          obtain ⟨t0, t1, t2, t3, t4⟩ := blk5 T5
          have x0 : (w4.alloc (.cells #[.int .i64 (p.k : Int), .string p.t, .int .u32 (p.v : Int), .int .i64 (p.l : Int), .int .i64 (p.c : Int)] 38)).cell? ⟨g, k * 5, none⟩ = some (.int .i64 (p.k : Int)) := cell_on1 ((Below.refl _ _).alloc (Nat.le_refl _) _) (HB4.out.at (HX.out 0 (by decide)) HNU.out)
          have x1 : (w4.alloc (.cells #[.int .i64 (p.k : Int), .string p.t, .int .u32 (p.v : Int), .int .i64 (p.l : Int), .int .i64 (p.c : Int)] 38)).cell? ⟨g, k * 5 + 1, none⟩ = some (.string p.t) := cell_on1 ((Below.refl _ _).alloc (Nat.le_refl _) _) (HB4.out.at (HX.out 1 (by decide)) HNU.out)
          have x2 : (w4.alloc (.cells #[.int .i64 (p.k : Int), .string p.t, .int .u32 (p.v : Int), .int .i64 (p.l : Int), .int .i64 (p.c : Int)] 38)).cell? ⟨g, k * 5 + 2, none⟩ = some (.int .u32 (p.v : Int)) := cell_on1 ((Below.refl _ _).alloc (Nat.le_refl _) _) (HB4.out.at (HX.out 2 (by decide)) HNU.out)
          have x3 : (w4.alloc (.cells #[.int .i64 (p.k : Int), .string p.t, .int .u32 (p.v : Int), .int .i64 (p.l : Int), .int .i64 (p.c : Int)] 38)).cell? ⟨g, k * 5 + 3, none⟩ = some (.int .i64 (p.l : Int)) := cell_on1 ((Below.refl _ _).alloc (Nat.le_refl _) _) (HB4.out.at (HX.out 3 (by decide)) HNU.out)
          have x4 : (w4.alloc (.cells #[.int .i64 (p.k : Int), .string p.t, .int .u32 (p.v : Int), .int .i64 (p.l : Int), .int .i64 (p.c : Int)] 38)).cell? ⟨g, k * 5 + 4, none⟩ = some (.int .i64 (p.c : Int)) := cell_on1 ((Below.refl _ _).alloc (Nat.le_refl _) _) (HB4.out.at (HX.out 4 (by decide)) HNU.out)
          have HE5 : Hid (Ends w (w4.alloc (.cells #[.int .i64 (p.k : Int), .string p.t, .int .u32 (p.v : Int), .int .i64 (p.l : Int), .int .i64 (p.c : Int)] 38)) S v L er (k + 1) _ _) := HE4.on ((Below.refl _ _).alloc (Nat.le_refl _) _)
          clear T5 HE4 hN
          go_upto_region 13 with (fail)
          generalize w4.alloc (.cells #[.int .i64 (p.k : Int), .string p.t, .int .u32 (p.v : Int), .int .i64 (p.l : Int), .int .i64 (p.c : Int)] 38) = w5 at *
          have kne : Nonempty (Kin w5) := ⟨⟨_, Below.refl _ _⟩⟩
          have kt0 : ∀ z : Kin w5, z.val.cell? ⟨w4.heap.size, 0, none⟩ = some (.int .i64 (p.k : Int)) := fun z => cell_on1 z.is (t0)
          have kt1 : ∀ z : Kin w5, z.val.cell? ⟨w4.heap.size, 1, none⟩ = some (.string p.t) := fun z => cell_on1 z.is (t1)
          have kt2 : ∀ z : Kin w5, z.val.cell? ⟨w4.heap.size, 2, none⟩ = some (.int .u32 (p.v : Int)) := fun z => cell_on1 z.is (t2)
          have kt3 : ∀ z : Kin w5, z.val.cell? ⟨w4.heap.size, 3, none⟩ = some (.int .i64 (p.l : Int)) := fun z => cell_on1 z.is (t3)
          have kt4 : ∀ z : Kin w5, z.val.cell? ⟨w4.heap.size, 4, none⟩ = some (.int .i64 (p.c : Int)) := fun z => cell_on1 z.is (t4)
          have kx0 : ∀ z : Kin w5, z.val.cell? ⟨g, k * 5, none⟩ = some (.int .i64 (p.k : Int)) := fun z => cell_on1 z.is (x0)
          have kx1 : ∀ z : Kin w5, z.val.cell? ⟨g, k * 5 + 1, none⟩ = some (.string p.t) := fun z => cell_on1 z.is (x1)
          have kx2 : ∀ z : Kin w5, z.val.cell? ⟨g, k * 5 + 2, none⟩ = some (.int .u32 (p.v : Int)) := fun z => cell_on1 z.is (x2)
          have kx3 : ∀ z : Kin w5, z.val.cell? ⟨g, k * 5 + 3, none⟩ = some (.int .i64 (p.l : Int)) := fun z => cell_on1 z.is (x3)
          have kx4 : ∀ z : Kin w5, z.val.cell? ⟨g, k * 5 + 4, none⟩ = some (.int .i64 (p.c : Int)) := fun z => cell_on1 z.is (x4)
          refine wp_region_kin w5 (Below.refl _ _) (by kernel_rfl) (by kernel_rfl) ?_
          repeat (go_big_quiet_step (fail))
          refine wpQuiet_nil ?_
          rintro wq ⟨⟨xq, hxq⟩, hyq⟩
          have hq : Below w5.heap.size w5 wq := by rw [hyq]; exact hxq
          have HQ : Hid (Below w5.heap.size w5 wq) := hq
          clear hyq hxq xq hq kne kt0 kt1 kt2 kt3 kt4 kx0 kx1 kx2 kx3 kx4
          clear t0 t1 t2 t3 t4 x0 x1 x2 x3 x4
          go_wp2_with (fail)
          go_roundw
          case rel => exact ⟨k + 1, by omega, by go_num, HE5.out.on HQ.out⟩
          case measure => simp [intOf]; omega
        · have hke : k = L.length := by have := HM.out; omega
          have hkM : k = m := by have := HM.out; omega
          subst hkM
          have hnM : k = n := by have := HN.out; have := HM.out; omega
          subst hnM
          have hS0 := HT.out.s
          rw [hke] at hS0
          have hN := nextEnd wr S 0 v L er hS0 HT.out.r HER.out (by have := HM.out; omega)
          have hzz := neqT0
          clear hS0 hke
          go_wp2_with (fail)
          refine hN.mono ?_
          rintro e w4 ⟨rfl, hb4⟩
          have HB4 : Hid (Below wr.heap.size wr w4) := hb4
          clear hb4
          have HE5 : Hid (Ends w (w4.alloc (.cells #[.int .i64 0, .string ⟨#[]⟩, .int .u32 0, .int .i64 0, .int .i64 0] 38)) S v L er k _ _) := (HT.out.on HB4.out).on ((Below.refl _ _).alloc (Nat.le_refl _) _)
          have T5 : (w4.alloc (.cells #[.int .i64 0, .string ⟨#[]⟩, .int .u32 0, .int .i64 0, .int .i64 0] 38)).heap[w4.heap.size]? = some (.cells #[.int .i64 0, .string ⟨#[]⟩, .int .u32 0, .int .i64 0, .int .i64 0] 38) := blk_new w4 _
          obtain ⟨t0, t1, t2, t3, t4⟩ := blk5 T5
          clear T5 hN
          go_upto_region 11 with (fail)
          generalize w4.alloc (.cells #[.int .i64 0, .string ⟨#[]⟩, .int .u32 0, .int .i64 0, .int .i64 0] 38) = w5 at *
          have kne : Nonempty (Kin w5) := ⟨⟨_, Below.refl _ _⟩⟩
          have kt0 : ∀ z : Kin w5, z.val.cell? ⟨w4.heap.size, 0, none⟩ = some (.int .i64 0) := fun z => cell_on1 z.is (t0)
          have kt1 : ∀ z : Kin w5, z.val.cell? ⟨w4.heap.size, 1, none⟩ = some (.string ⟨#[]⟩) := fun z => cell_on1 z.is (t1)
          have kt2 : ∀ z : Kin w5, z.val.cell? ⟨w4.heap.size, 2, none⟩ = some (.int .u32 0) := fun z => cell_on1 z.is (t2)
          have kt3 : ∀ z : Kin w5, z.val.cell? ⟨w4.heap.size, 3, none⟩ = some (.int .i64 0) := fun z => cell_on1 z.is (t3)
          have kt4 : ∀ z : Kin w5, z.val.cell? ⟨w4.heap.size, 4, none⟩ = some (.int .i64 0) := fun z => cell_on1 z.is (t4)
          refine wp_region_kin w5 (Below.refl _ _) (by kernel_rfl) (by kernel_rfl) ?_
          repeat (go_big_quiet_step (fail))
          refine wpQuiet_nil ?_
          rintro wq ⟨⟨xq, hxq⟩, hyq⟩
          have hq : Below w5.heap.size w5 wq := by rw [hyq]; exact hxq
          have HQ : Hid (Below w5.heap.size w5 wq) := hq
          clear hyq hxq xq hq kne kt0 kt1 kt2 kt3 kt4
          have HE6 : Hid (Ends w wq S v L er k _ _) := HE5.out.on HQ.out
          clear t0 t1 t2 t3 t4
          have hA := awakeL allOk allBad wq HE6.out.hnd
          go_wp2_with (fail)
          refine hA.mono ?_
          rintro e w7 ⟨rfl, hb7⟩
          have HE7 : Hid (Ends w w7 S v L er k _ _) := HE6.out.on hb7
          have hB1 := backOk w7 S k v er k HE7.out.s (Nat.le_refl _) (by omega)
          rw [Nat.sub_self] at hB1
          have hk1 : (k : Int) ≤ (z : Int) + 1 := by omega
          clear hb7 hA
          go_wp2_with (fail)
          refine hB1.mono ?_
          rintro e w8 ⟨rfl, hS8, hb8⟩
          have HB8 : Hid (Below w.heap.size w w8) := HE7.out.bel.trans (hb8.below HE7.out.lS HE7.out.bel.size)
          have hB2 := backArg w8 S 0 v er 1 hS8 (.inr (by decide))
          clear hS8 hb8 hB1
          go_wp2_with (fail)
          refine hB2.mono ?_
          rintro e w9 ⟨rfl, hb9⟩
          have HB9 : Hid (Below w.heap.size w w9) := HB8.out.trans (hb9.mono HB8.out.size)
          clear hb9 hB2
          go_wp2_with (fail)
          go_ret
          exact ⟨rfl, HB9.out⟩
    · have HER : Hid (er.e ≠ 0) := he
      have hA := hBd w HG.out he
      clear hO he hm
      go_enter Tryd.func5, Tryd.ntmps5
      go_wp2_with (fail)
      refine hA.mono ?_
      rintro e w1 ⟨u, F0, rfl, hrow1, hF1, hFl, hFu, hb1⟩
      obtain ⟨uad, ucap, hu, hcu, _⟩ := hrow1.form
      have HG1 : Hid (Hnd w1) := HG.out.on hb1
      have HB1 : Hid (Below w.heap.size w w1) := hb1
      have HR1 : Hid (RowT w1 0 u []) := hrow1.base (Nat.zero_le _)
      have HU1 : Hid (∀ k, u.ownBlock = some k → k < w1.heap.size) := fun k hk => (hrow1.lt k hk).2
      have HF1 : Hid (Flt w1 F0 (er.e : Int) (er.l : Int) (er.c : Int)) := hF1
      have HFl : Hid (F0 < w1.heap.size) := blk_lt hF1
      have hu0 : u = .slice uad 0 ucap := hu
      clear hrow1 hb1 hA hBd hF1 hFu hu
      subst hu0
      go_wp2_with (fail)
      refine (hNw _ HG1.out).mono ?_
      rintro e w2 ⟨S, v, rfl, hs2, hrv2, hl2, hn2, hb2⟩
      have HNF : Hid (F0 ≠ S) := by show _ ≠ _; have := HFl.out; omega
      have HT : Hid (Ends w w2 S v L er 0 (.slice uad 0 ucap) [] ∧ Flt w2 F0 (er.e : Int) (er.l : Int) (er.c : Int)) := by
        refine ⟨⟨HB1.out.trans (hb2.mono HB1.out.size), hs2, hrv2.base (Nat.zero_le _), HR1.out.on hb2, HG1.out.on hb2, (HPw.out.on HB1.out).on hb2, hn2, fun h => ?_, by have := HB1.out.size; omega, HG.out.lt⟩, blk_on HF1.out hb2⟩
        have := HU1.out _ h.symm; omega
      clear hs2 hrv2 hl2 hn2 hb2 hNw HU1 HR1 HB1 HG1
      go_wp2_with (fail)
      go_loopw [6] (fun nv wr => ∃ k : Nat, k ≤ m ∧ nv = .int .i64 (k : Int) ∧ Hid (Ends w wr S v L er k (.slice uad 0 ucap) []) ∧ Hid (Flt wr F0 (er.e : Int) (er.l : Int) (er.c : Int))) (fun nv _ => m + 1 - (intOf nv).toNat)
      case atStart => exact ⟨0, Nat.zero_le _, rfl, HT.out.1, HT.out.2⟩
      case round =>
        obtain ⟨k, hkm, rfl, HT, HFlt⟩ := hrel
        have hk2 : (k : Int) ≤ (z : Int) + 2 := by omega
        have hk9 : (k : Int) ≤ 200000 := by omega
        by_cases hlt : k < m
        · have hk : k < L.length := by rw [← HM.out]; exact hlt
          have hN := nextTok wr S k 0 v L er HT.out.s HT.out.r HT.out.ne hk (by have := HM.out; omega)
          obtain ⟨p, hp⟩ : ∃ p, p = L[k]'hk := ⟨_, rfl⟩
          rw [← hp] at hN
          have hne := neqT p
          clear hp hk
          go_wp2_with (fail)
          refine hN.mono ?_
          rintro e w4 ⟨rfl, hS4, hb4⟩
          have HS4 : Hid (Scn w4 S v (k + 1) er) := hS4
          have HB4 : Hid (But S wr w4) := hb4
          clear hb4 hS4
          have HE4 := HT.out.step HB4.out HS4.out
          have T5 : (w4.alloc (.cells #[.int .i64 (p.k : Int), .string p.t, .int .u32 (p.v : Int), .int .i64 (p.l : Int), .int .i64 (p.c : Int)] 38)).heap[w4.heap.size]? = some (.cells #[.int .i64 (p.k : Int), .string p.t, .int .u32 (p.v : Int), .int .i64 (p.l : Int), .int .i64 (p.c : Int)] 38) := blk_new w4 _
          obtain ⟨t0, t1, t2, t3, t4⟩ := blk5 T5
          have HE5 : Hid (Ends w (w4.alloc (.cells #[.int .i64 (p.k : Int), .string p.t, .int .u32 (p.v : Int), .int .i64 (p.l : Int), .int .i64 (p.c : Int)] 38)) S v L er (k + 1) _ _) := HE4.on ((Below.refl _ _).alloc (Nat.le_refl _) _)
          have HF5 : Hid (Flt (w4.alloc (.cells #[.int .i64 (p.k : Int), .string p.t, .int .u32 (p.v : Int), .int .i64 (p.l : Int), .int .i64 (p.c : Int)] 38)) F0 (er.e : Int) (er.l : Int) (er.c : Int)) := blk_alloc (HB4.out.blk HFlt.out HNF.out) _
          clear T5 HE4 hN
          go_upto_region 13 with (fail)
          generalize w4.alloc (.cells #[.int .i64 (p.k : Int), .string p.t, .int .u32 (p.v : Int), .int .i64 (p.l : Int), .int .i64 (p.c : Int)] 38) = w5 at *
          have kne : Nonempty (Kin w5) := ⟨⟨_, Below.refl _ _⟩⟩
          have kt0 : ∀ z : Kin w5, z.val.cell? ⟨w4.heap.size, 0, none⟩ = some (.int .i64 (p.k : Int)) := fun z => cell_on1 z.is (t0)
          have kt1 : ∀ z : Kin w5, z.val.cell? ⟨w4.heap.size, 1, none⟩ = some (.string p.t) := fun z => cell_on1 z.is (t1)
          have kt2 : ∀ z : Kin w5, z.val.cell? ⟨w4.heap.size, 2, none⟩ = some (.int .u32 (p.v : Int)) := fun z => cell_on1 z.is (t2)
          have kt3 : ∀ z : Kin w5, z.val.cell? ⟨w4.heap.size, 3, none⟩ = some (.int .i64 (p.l : Int)) := fun z => cell_on1 z.is (t3)
          have kt4 : ∀ z : Kin w5, z.val.cell? ⟨w4.heap.size, 4, none⟩ = some (.int .i64 (p.c : Int)) := fun z => cell_on1 z.is (t4)
          refine wp_region_kin w5 (Below.refl _ _) (by kernel_rfl) (by kernel_rfl) ?_
          repeat (go_big_quiet_step (fail))
          refine wpQuiet_nil ?_
          rintro wq ⟨⟨xq, hxq⟩, hyq⟩
          have hq : Below w5.heap.size w5 wq := by rw [hyq]; exact hxq
          have HQ : Hid (Below w5.heap.size w5 wq) := hq
          clear hyq hxq xq hq kne kt0 kt1 kt2 kt3 kt4
          clear t0 t1 t2 t3 t4
          go_wp2_with (fail)
          go_roundw
          case rel => exact ⟨k + 1, by omega, by go_num, HE5.out.on HQ.out, blk_on HF5.out HQ.out⟩
          case measure => simp [intOf]; omega
        · have hke : k = L.length := by have := HM.out; omega
          have hkM : k = m := by have := HM.out; omega
          subst hkM
          have hS0 := HT.out.s
          rw [hke] at hS0
          have hN := nextBad wr S 0 v L er hS0 HT.out.r HER.out (by have := HM.out; omega)
          have hzz := neqT0
          have mE := methEr
          clear hS0 hke
          go_wp2_with (fail)
          refine hN.mono ?_
          rintro e w4 ⟨F1, rfl, hF4, hFl4, hb4⟩
          have HB4 : Hid (Below wr.heap.size wr w4) := hb4
          have HF4 : Hid (Flt w4 F1 (er.e : Int) (er.l : Int) (er.c : Int)) := hF4
          clear hb4 hF4 hFl4
          have HE5 : Hid (Ends w (w4.alloc (.cells #[.int .i64 0, .string ⟨#[]⟩, .int .u32 0, .int .i64 0, .int .i64 0] 38)) S v L er k _ _) := (HT.out.on HB4.out).on ((Below.refl _ _).alloc (Nat.le_refl _) _)
          have T5 : (w4.alloc (.cells #[.int .i64 0, .string ⟨#[]⟩, .int .u32 0, .int .i64 0, .int .i64 0] 38)).heap[w4.heap.size]? = some (.cells #[.int .i64 0, .string ⟨#[]⟩, .int .u32 0, .int .i64 0, .int .i64 0] 38) := blk_new w4 _
          obtain ⟨t0, t1, t2, t3, t4⟩ := blk5 T5
          have HF5 : Hid (Flt (w4.alloc (.cells #[.int .i64 0, .string ⟨#[]⟩, .int .u32 0, .int .i64 0, .int .i64 0] 38)) F0 (er.e : Int) (er.l : Int) (er.c : Int)) := blk_alloc (blk_on HFlt.out HB4.out) _
          have HG5 : Hid (Flt (w4.alloc (.cells #[.int .i64 0, .string ⟨#[]⟩, .int .u32 0, .int .i64 0, .int .i64 0] 38)) F1 (er.e : Int) (er.l : Int) (er.c : Int)) := blk_alloc HF4.out _
          clear T5 hN
          go_upto_region 11 with (fail)
          generalize w4.alloc (.cells #[.int .i64 0, .string ⟨#[]⟩, .int .u32 0, .int .i64 0, .int .i64 0] 38) = w5 at *
          have rr : ∀ (G : Nat) (x : Kin w5), (G = F0 ∨ G = F1) → Calls Tryd.prog 93 #[.pointer (some ⟨G, 0, none⟩)] x.val fun e w' => e = .returned (.string (errT (er.e : Int) (er.l : Int) (er.c : Int))) ∧ Below x.val.heap.size x.val w' := fun G x hG => by
            rcases hG with rfl | rfl
            · exact errorC _ er.e er.l er.c x.val HER2.out.1 HER2.out.2.1 HER2.out.2.2 (blk_on HF5.out x.is) (HE5.out.pw.on x.is)
            · exact errorC _ er.e er.l er.c x.val HER2.out.1 HER2.out.2.1 HER2.out.2.2 (blk_on HG5.out x.is) (HE5.out.pw.on x.is)
          generalize errT (er.e : Int) (er.l : Int) (er.c : Int) = tx at rr
          have kne : Nonempty (Kin w5) := ⟨⟨_, Below.refl _ _⟩⟩
          have kt0 : ∀ z : Kin w5, z.val.cell? ⟨w4.heap.size, 0, none⟩ = some (.int .i64 0) := fun z => cell_on1 z.is (t0)
          have kt1 : ∀ z : Kin w5, z.val.cell? ⟨w4.heap.size, 1, none⟩ = some (.string ⟨#[]⟩) := fun z => cell_on1 z.is (t1)
          have kt2 : ∀ z : Kin w5, z.val.cell? ⟨w4.heap.size, 2, none⟩ = some (.int .u32 0) := fun z => cell_on1 z.is (t2)
          have kt3 : ∀ z : Kin w5, z.val.cell? ⟨w4.heap.size, 3, none⟩ = some (.int .i64 0) := fun z => cell_on1 z.is (t3)
          have kt4 : ∀ z : Kin w5, z.val.cell? ⟨w4.heap.size, 4, none⟩ = some (.int .i64 0) := fun z => cell_on1 z.is (t4)
          refine wp_region_kin w5 (Below.refl _ _) (by kernel_rfl) (by kernel_rfl) ?_
          repeat (go_big_quiet_step ((go_at_call 93; exact kin_call (rr _ _ (by first | exact .inl rfl | exact .inr rfl)))))
          refine wpQuiet_nil ?_
          rintro wq ⟨⟨xq, hxq⟩, hyq⟩
          have hq : Below w5.heap.size w5 wq := by rw [hyq]; exact hxq
          have HQ : Hid (Below w5.heap.size w5 wq) := hq
          clear hyq hxq xq hq kne kt0 kt1 kt2 kt3 kt4
          have HE6 : Hid (Ends w wq S v L er k _ _) := HE5.out.on HQ.out
          clear t0 t1 t2 t3 t4 rr
          have hA := awakeL allOk allBad wq HE6.out.hnd
          go_wp2_with (fail)
          refine hA.mono ?_
          rintro e w7 ⟨rfl, hb7⟩
          have HE7 : Hid (Ends w w7 S v L er k _ _) := HE6.out.on hb7
          have hB1 := backOk w7 S k v er k HE7.out.s (Nat.le_refl _) (by omega)
          rw [Nat.sub_self] at hB1
          have hk1 : (k : Int) ≤ (z : Int) + 1 := by omega
          clear hb7 hA
          go_wp2_with (fail)
          refine hB1.mono ?_
          rintro e w8 ⟨rfl, hS8, hb8⟩
          have HB8 : Hid (Below w.heap.size w w8) := HE7.out.bel.trans (hb8.below HE7.out.lS HE7.out.bel.size)
          have hB2 := backArg w8 S 0 v er 1 hS8 (.inr (by decide))
          clear hS8 hb8 hB1
          go_wp2_with (fail)
          refine hB2.mono ?_
          rintro e w9 ⟨rfl, hb9⟩
          have HB9 : Hid (Below w.heap.size w w9) := HB8.out.trans (hb9.mono HB8.out.size)
          clear hb9 hB2
          go_wp2_with (fail)
          go_ret
          exact ⟨rfl, HB9.out⟩
end Go.Proofs.YtpbbeemlaigimaaDoor
