/-
  nest's check, sources, targets, held, Prune, Grid and Pairs. Written by tools/mkNsQ.py.
-/
import Derived.Test.YtcjpjofoddpfhaaGreatNsO
import Derived.Test.YtcjpjofoddpfhaaGreatNsL
import Derived.Test.YtcjpjofoddpfhaaGreatTbRc
namespace Go.Proofs.YtcjpjofoddpfhaaGreat
open Go.RowKit
set_option linter.unusedVariables false
set_option linter.unusedSimpArgs false

theorem rngU {w : World} {ad : Option Addr} {n cap : Nat} {l : List Ru} (h : SrcU w (.slice ad n cap) l) : n = l.length ∧ (∀ W, Below w.heap.size w W → ∀ k (hk : k < l.length), ∃ g off, ad = some ⟨g, off, none⟩ ∧ ∀ j u, (encU (l[k]'hk))[j]? = some u → W.cell? ⟨g, off + k * 12 + j, none⟩ = some u) := by
  obtain ⟨ad', cap', e, hc, h2⟩ := h
  obtain ⟨rfl, e2, rfl⟩ : ad = ad' ∧ n = l.length ∧ cap = cap' := by cases e; exact ⟨rfl, rfl, rfl⟩
  refine ⟨e2, fun W hb k hk => ?_⟩
  obtain ⟨g, off, e, h3⟩ := h2 (by omega)
  refine ⟨g, off, e, fun j u hu => ?_⟩
  have hj : j < 12 := by
    have := (List.getElem?_eq_some_iff.1 hu).1
    simpa [encU] using this
  have := h3 k hk j hj
  rw [show off + k * 12 + j = off + (k * 12 + j) by omega]
  exact cell_on1 hb (this.trans hu)
theorem only_above {w w1 w2 : World} {o : Obj} (h : Below w.heap.size w w1) (ho : Only w1.heap.size (w1.alloc o) w2) : Below w.heap.size w w2 ∧ Below w1.heap.size w1 w2 := by
  have hb : Below w1.heap.size w1 w2 := ((Below.refl _ _).alloc (Nat.le_refl _) _).trans (ho.below (Nat.le_refl _))
  exact ⟨h.trans (hb.mono h.size), hb⟩
/-- How many rules match by their prefixes. -/
def prsB (h : Hd) (R : Ru) : Bool := okR R && (Pf.hasB R.s R.sl h.s && Pf.hasB R.d R.dl h.d)
def prsN (l : List Ru) (h : Hd) : Nat := l.countP (prsB h)
theorem prs_step {l : List Ru} {h : Hd} {k : Nat} (hk : k < l.length) : ((l.take (k + 1)).countP (prsB h)) = (l.take k).countP (prsB h) + if prsB h l[k] then 1 else 0 := by
  rw [take_at hk, List.countP_append, List.countP_singleton]
set_option maxRecDepth 20000 in
set_option maxHeartbeats 4000000 in
theorem pairsC (l : List Ru) (h : Hd) (v : Value) (w : World) (hs : SrcU w v l) (hl : l.length ≤ 16777216) (hb : ∀ R ∈ l, BdR R) (ho : OkH h) :
    Calls Tryz.prog 23 #[v, .agg #[.int .u32 (h.s : Int), .int .u32 (h.d : Int), .int .u16 (h.p : Int), .int .u16 (h.q : Int), .int .u8 (h.r : Int)]] w fun e w' => e = .returned (.int .i64 (prsN l h : Nat)) ∧ Below w.heap.size w w' := by
  have HS : Hid (SrcU w v l) := hs
  have HBd : Hid (∀ R ∈ l, BdR R) := hb
  obtain ⟨ad, cap, rfl, _, _⟩ := hs
  obtain ⟨n, hn⟩ : ∃ n, n = l.length := ⟨_, rfl⟩
  rw [← hn] at HS hl ⊢
  have Hn : Hid (n = l.length) := hn
  have Hend : Hid (prsN l h = (l.take n).countP (prsB h)) := by rw [hn, List.take_length]; rfl
  clear hn hb
  obtain ⟨A, hA⟩ : ∃ A, A = prsN l h := ⟨_, rfl⟩
  rw [← hA] at Hend ⊢
  clear hA
  obtain ⟨w0, hw0⟩ : ∃ w0, w0 = w.alloc (.cells #[.int .u32 (h.s : Int), .int .u32 (h.d : Int), .int .u16 (h.p : Int), .int .u16 (h.q : Int), .int .u8 (h.r : Int)] 40) := ⟨_, rfl⟩
  have z0 : w0.cell? ⟨w.heap.size, 0, none⟩ = some (.int .u32 (h.s : Int)) := by rw [hw0]; exact blk_cell (blk_new w _) rfl
  have z1 : w0.cell? ⟨w.heap.size, 1, none⟩ = some (.int .u32 (h.d : Int)) := by rw [hw0]; exact blk_cell (blk_new w _) rfl
  have HB0 : Hid (Below w.heap.size w w0) := by rw [hw0]; exact (Below.refl _ _).alloc (Nat.le_refl _) _
  have Hz0 : Hid _ := z0
  have Hz1 : Hid _ := z1
  have hw0s : w.alloc (.cells #[.int .u32 (h.s : Int), .int .u32 (h.d : Int), .int .u16 (h.p : Int), .int .u16 (h.q : Int), .int .u8 (h.r : Int)] 40) = w0 := hw0.symm
  clear hw0 z0 z1
  obtain ⟨ho1, ho2, _⟩ := ho
  go_enter Tryz.func23, Tryz.ntmps23
  go_wp2_with (fail)
  try simp only [hw0s]
  clear hw0s
  go_loopw [5, 12] (fun vs vi wr => ∃ k : Nat, k ≤ n ∧ vs = .int .i64 (((l.take k).countP (prsB h) : Nat) : Int) ∧ vi = .int .i64 (k : Int) ∧ Hid (Below w0.heap.size w0 wr)) (fun _ vi _ => n - (intOf vi).toNat)
  case atStart => exact ⟨0, Nat.zero_le _, rfl, rfl, Below.refl _ _⟩
  case round =>
    obtain ⟨k, hk, rfl, rfl, HB⟩ := hrel
    by_cases hlt : k < n
    · have hlt' : k < l.length := by rw [← Hn.out]; exact hlt
      have hlti : (k : Int) < (n : Int) := by omega
      have HBw : Hid (Below w.heap.size w wr) := bel_of HB0.out HB.out HB0.out.size
      obtain ⟨g, off, rfl, hrg⟩ := (rngU HS.out).2 wr HBw.out k hlt'
      have hst := prs_step (h := h) hlt'
      have hbd := HBd.out _ (List.getElem_mem hlt')
      obtain ⟨p, hp⟩ : ∃ p, p = l[k] := ⟨_, rfl⟩
      rw [← hp] at hrg hst hbd
      clear hp
      have x0 : wr.cell? ⟨g, off + k * 12, none⟩ = some (.int .i64 p.i) := hrg 0 _ rfl
      have x1 : wr.cell? ⟨g, off + k * 12 + 1, none⟩ = some (.int .u32 (p.s : Int)) := hrg 1 _ rfl
      have x2 : wr.cell? ⟨g, off + k * 12 + 2, none⟩ = some (.int .i64 p.sl) := hrg 2 _ rfl
      have x3 : wr.cell? ⟨g, off + k * 12 + 3, none⟩ = some (.int .u32 (p.d : Int)) := hrg 3 _ rfl
      have x4 : wr.cell? ⟨g, off + k * 12 + 4, none⟩ = some (.int .i64 p.dl) := hrg 4 _ rfl
      have x5 : wr.cell? ⟨g, off + k * 12 + 5, none⟩ = some (.int .u16 (p.p.1 : Int)) := hrg 5 _ rfl
      have x6 : wr.cell? ⟨g, off + k * 12 + 6, none⟩ = some (.int .u16 (p.p.2 : Int)) := hrg 6 _ rfl
      have x7 : wr.cell? ⟨g, off + k * 12 + 7, none⟩ = some (.int .u16 (p.q.1 : Int)) := hrg 7 _ rfl
      have x8 : wr.cell? ⟨g, off + k * 12 + 8, none⟩ = some (.int .u16 (p.q.2 : Int)) := hrg 8 _ rfl
      have x9 : wr.cell? ⟨g, off + k * 12 + 9, none⟩ = some (.int .u8 (p.m.1 : Int)) := hrg 9 _ rfl
      have x10 : wr.cell? ⟨g, off + k * 12 + 10, none⟩ = some (.int .u8 (p.m.2 : Int)) := hrg 10 _ rfl
      have x11 : wr.cell? ⟨g, off + k * 12 + 11, none⟩ = some (.int .i64 p.act) := hrg 11 _ rfl
      have hC := fun W => checkRC p W hbd
      have hH1 := fun W => Pf.has_any p.s p.sl h.s W hbd.1 ho1
      have hH2 := fun W => Pf.has_any p.d p.dl h.d W hbd.2.1 ho2
      have Hst : Hid (((l.take (k + 1)).countP (prsB h)) = (l.take k).countP (prsB h) + if prsB h p then 1 else 0) := hst
      have Hcl : Hid ((l.take k).countP (prsB h) ≤ k) := Nat.le_trans List.countP_le_length (by rw [List.length_take]; omega)
      clear hst hbd
      generalize (l.take k).countP (prsB h) = C at *
      have hCb : C ≤ 16777216 := by have := Hcl.out; omega
      have HX : Hid ((wr.alloc (.cells #[.int .i64 p.i, .int .u32 (p.s : Int), .int .i64 p.sl, .int .u32 (p.d : Int), .int .i64 p.dl, .int .u16 (p.p.1 : Int), .int .u16 (p.p.2 : Int), .int .u16 (p.q.1 : Int), .int .u16 (p.q.2 : Int), .int .u8 (p.m.1 : Int), .int .u8 (p.m.2 : Int), .int .i64 p.act] 54)).heap[wr.heap.size]? = some (.cells #[.int .i64 p.i, .int .u32 (p.s : Int), .int .i64 p.sl, .int .u32 (p.d : Int), .int .i64 p.dl, .int .u16 (p.p.1 : Int), .int .u16 (p.p.2 : Int), .int .u16 (p.q.1 : Int), .int .u16 (p.q.2 : Int), .int .u8 (p.m.1 : Int), .int .u8 (p.m.2 : Int), .int .i64 p.act] 54 (0, 0))) := blk_new wr _
      have HB2 : Hid (Below w0.heap.size w0 (wr.alloc (.cells #[.int .i64 p.i, .int .u32 (p.s : Int), .int .i64 p.sl, .int .u32 (p.d : Int), .int .i64 p.dl, .int .u16 (p.p.1 : Int), .int .u16 (p.p.2 : Int), .int .u16 (p.q.1 : Int), .int .u16 (p.q.2 : Int), .int .u8 (p.m.1 : Int), .int .u8 (p.m.2 : Int), .int .i64 p.act] 54))) := HB.out.alloc HB.out.size _
      clear hrg
      go_wp2_with (go_at_call 45; fail)
      clear x0 x1 x2 x3 x4 x5 x6 x7 x8 x9 x10 x11
      refine (hC _).mono ?_
      rintro e w3 ⟨rfl, hb3⟩
      have HX3 : Hid (w3.heap[wr.heap.size]? = some (.cells #[.int .i64 p.i, .int .u32 (p.s : Int), .int .i64 p.sl, .int .u32 (p.d : Int), .int .i64 p.dl, .int .u16 (p.p.1 : Int), .int .u16 (p.p.2 : Int), .int .u16 (p.q.1 : Int), .int .u16 (p.q.2 : Int), .int .u8 (p.m.1 : Int), .int .u8 (p.m.2 : Int), .int .i64 p.act] 54 (0, 0))) := blk_on HX.out hb3
      have HB3 : Hid (Below w0.heap.size w0 w3) := bel_of HB2.out hb3 HB2.out.size
      have y1 : w3.cell? ⟨wr.heap.size, 1, none⟩ = some (.int .u32 (p.s : Int)) := blk_cell HX3.out rfl
      have y2 : w3.cell? ⟨wr.heap.size, 2, none⟩ = some (.int .i64 p.sl) := blk_cell HX3.out rfl
      have y3 : w3.cell? ⟨wr.heap.size, 3, none⟩ = some (.int .u32 (p.d : Int)) := blk_cell HX3.out rfl
      have y4 : w3.cell? ⟨wr.heap.size, 4, none⟩ = some (.int .i64 p.dl) := blk_cell HX3.out rfl
      have z0 := cell_on1 HB3.out Hz0.out
      have z1 := cell_on1 HB3.out Hz1.out
      clear hb3 hC HX HB2
      cases hok : okR p with
      | false =>
        have hne := errs_no hok
        have hq : prsB h p = false := by unfold prsB; rw [hok]; rfl
        have Hq : Hid (((l.take (k + 1)).countP (prsB h)) = C) := show ((l.take (k + 1)).countP (prsB h)) = C by have := Hst.out; rw [hq] at this; simpa using this
        have hne' : ((errs p).1 == 0) = false := by simpa using hne
        clear hq hok
        generalize (errs p).1 = E1 at *
        generalize (errs p).2 = E2 at *
        go_wp2_with (fail)
        go_roundw
        case rel => exact ⟨k + 1, by omega, by rw [Hq.out], by go_num, HB3.out⟩
        case measure => simp [intOf]; omega
      | true =>
        rw [errs_ok hok]
        have hqq : prsB h p = (Pf.hasB p.s p.sl h.s && Pf.hasB p.d p.dl h.d) := by unfold prsB; rw [hok]; rfl
        have Hqq : Hid _ := hqq
        clear hqq hok
        cases h1 : Pf.hasB p.s p.sl h.s with
        | false =>
          have Hq : Hid (((l.take (k + 1)).countP (prsB h)) = C) := show ((l.take (k + 1)).countP (prsB h)) = C by have := Hst.out; rw [Hqq.out, h1] at this; simpa using this
          rw [h1] at hH1
          clear h1 hH2
          go_wp2_with (go_at_call 46; refine (hH1 _).mono ?_; rintro e w4 ⟨rfl, hb4⟩)
          have HB4 : Hid (Below w0.heap.size w0 w4) := bel_of HB3.out (by assumption) HB3.out.size
          go_roundw
          case rel => exact ⟨k + 1, by omega, by rw [Hq.out], by go_num, HB4.out⟩
          case measure => simp [intOf]; omega
        | true =>
          rw [h1] at hH1
          cases h2 : Pf.hasB p.d p.dl h.d with
          | false =>
            have Hq : Hid (((l.take (k + 1)).countP (prsB h)) = C) := show ((l.take (k + 1)).countP (prsB h)) = C by have := Hst.out; rw [Hqq.out, h1, h2] at this; simpa using this
            rw [h2] at hH2
            clear h1 h2
            go_wp2_with (go_at_call 46; first | (refine (hH1 _).mono ?_; rintro e w4 ⟨rfl, hb4⟩; have y3' := cell_on1 hb4 y3; have y4' := cell_on1 hb4 y4; have z1' := cell_on1 hb4 z1; have HB4 : Hid (Below w0.heap.size w0 w4) := bel_of HB3.out hb4 HB3.out.size; clear hb4 hH1) | (refine (hH2 _).mono ?_; rintro e w5 ⟨rfl, hb5⟩))
            have HB5 : Hid (Below w0.heap.size w0 w5) := bel_of HB4.out (by assumption) HB4.out.size
            go_roundw
            case rel => exact ⟨k + 1, by omega, by rw [Hq.out], by go_num, HB5.out⟩
            case measure => simp [intOf]; omega
          | true =>
            have Hq : Hid (((l.take (k + 1)).countP (prsB h)) = C + 1) := show ((l.take (k + 1)).countP (prsB h)) = C + 1 by have := Hst.out; rw [Hqq.out, h1, h2] at this; simpa using this
            rw [h2] at hH2
            clear h1 h2
            go_wp2_with (go_at_call 46; first | (refine (hH1 _).mono ?_; rintro e w4 ⟨rfl, hb4⟩; have y3' := cell_on1 hb4 y3; have y4' := cell_on1 hb4 y4; have z1' := cell_on1 hb4 z1; have HB4 : Hid (Below w0.heap.size w0 w4) := bel_of HB3.out hb4 HB3.out.size; clear hb4 hH1) | (refine (hH2 _).mono ?_; rintro e w5 ⟨rfl, hb5⟩))
            have HB5 : Hid (Below w0.heap.size w0 w5) := bel_of HB4.out (by assumption) HB4.out.size
            go_roundw
            case rel => exact ⟨k + 1, by omega, by rw [Hq.out]; go_num, by go_num, HB5.out⟩
            case measure => simp [intOf]; omega
    · obtain rfl : k = n := by omega
      have hni : ¬ (k : Int) < (k : Int) := by omega
      go_wp2
      go_ret
      exact ⟨ret_int (by rw [Hend.out]), bel_of HB0.out HB.out HB0.out.size⟩
end Go.Proofs.YtcjpjofoddpfhaaGreat
