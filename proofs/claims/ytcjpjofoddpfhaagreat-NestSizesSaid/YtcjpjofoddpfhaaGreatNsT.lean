/-
  nest's targets, held, Grid and Prune. Written by tools/mkNsT.py.
-/
import Derived.Test.YtcjpjofoddpfhaaGreatNsS
namespace Go.Proofs.YtcjpjofoddpfhaaGreat
open Go.RowKit
set_option linter.unusedVariables false
set_option linter.unusedSimpArgs false


def pr (R : Ru) : (Nat × Nat) × (Nat × Nat) := (sr R, ds R)
theorem tgs_app (l : List ((Nat × Nat) × (Nat × Nat))) (r : (Nat × Nat) × (Nat × Nat)) (s : Nat × Nat) : tgs witX (l ++ [r]) s = if witX s r.1 then tgs witX l s ++ [r.2] else tgs witX l s := by
  unfold tgs
  rw [List.filter_append, List.map_append]
  cases h : witX s r.1 <;> simp [h]
theorem srcX_at {w : World} {ad : Option Addr} {n cap : Nat} {l : List (Nat × Nat)} (h : SrcX w (.slice ad n cap) l) : n = l.length ∧ ∀ {W : World}, Below w.heap.size w W → ∀ k (hk : k < l.length), ∃ g off, ad = some ⟨g, off, none⟩ ∧ W.cell? ⟨g, off + k * 2, none⟩ = some (.int .u32 ((l[k]'hk).1 : Int)) ∧ W.cell? ⟨g, off + k * 2 + 1, none⟩ = some (.int .i64 ((l[k]'hk).2 : Int)) := by
  obtain ⟨ad', c, e, _, h2⟩ := h
  cases e
  refine ⟨rfl, fun {W} hb k hk => ?_⟩
  obtain ⟨g, off, rfl, h3⟩ := h2 (by omega)
  have h0 := h3 k hk 0 (by omega)
  have h1 := h3 k hk 1 (by omega)
  rw [Nat.add_zero] at h0
  rw [← Nat.add_assoc] at h1
  exact ⟨g, off, rfl, cell_on1 hb h0, cell_on1 hb h1⟩
set_option maxRecDepth 20000 in
set_option maxHeartbeats 4000000 in
theorem targetsC (l : List Ru) (s : Nat × Nat) (v : Value) (w : World) (hs : SrcU w v l) (hl : l.length ≤ 64) (hb : ∀ R ∈ l, BdR R ∧ okR R = true) (ho : s.1 < 4294967296) :
    Calls Tryz.prog 39 #[v, .agg #[.int .u32 (s.1), .int .i64 (s.2)]] w fun e w' => ∃ v' : Value, e = .returned v' ∧ RowX w' w.heap.size v' (tgs witX (l.map pr) s) ∧ Below w.heap.size w w' := by
  have HS : Hid (SrcU w v l) := hs
  have HBd : Hid (∀ R ∈ l, BdR R ∧ okR R = true) := hb
  obtain ⟨ad, cap, rfl, hcp, _⟩ := hs
  obtain ⟨n, hn⟩ : ∃ n, n = l.length := ⟨_, rfl⟩
  rw [← hn] at HS hl ⊢
  have Hn : Hid (n = l.length) := hn
  clear hn hb hcp
  obtain ⟨w0, hw0⟩ : ∃ w0, w0 = w.alloc (.cells #[.int .u32 (s.1 : Int), .int .i64 (s.2 : Int)] 50) := ⟨_, rfl⟩
  have Hz0 : Hid (w0.cell? ⟨w.heap.size, 0, none⟩ = some (.int .u32 (s.1 : Int))) := by rw [hw0]; exact blk_cell (blk_new w _) rfl
  have Hz1 : Hid (w0.cell? ⟨w.heap.size, 1, none⟩ = some (.int .i64 (s.2 : Int))) := by rw [hw0]; exact blk_cell (blk_new w _) rfl
  have HB0 : Hid (Below w.heap.size w w0) := by rw [hw0]; exact (Below.refl _ _).alloc (Nat.le_refl _) _
  have Hsz : Hid (w.heap.size < w0.heap.size) := by show w.heap.size < w0.heap.size; rw [hw0]; simp
  have hw0s : w.alloc (.cells #[.int .u32 (s.1 : Int), .int .i64 (s.2 : Int)] 50) = w0 := hw0.symm
  clear hw0
  go_enter Tryz.func39, Tryz.ntmps39
  go_wp2_with (fail)
  try simp only [hw0s]
  clear hw0s
  go_loopw [5, 10] (fun sv vi wr => ∃ (k : Nat) (vs : Value), k ≤ n ∧ vs = sv ∧ vi = .int .i64 (k : Int) ∧ Hid (RowX wr w0.heap.size vs (tgs witX ((l.take k).map pr) s)) ∧ Hid (Below w0.heap.size w0 wr)) (fun _ vi _ => n - (intOf vi).toNat)
  case atStart => exact ⟨0, _, Nat.zero_le _, rfl, rfl, World.ownsRow_nil _ _ _ _, Below.refl _ _⟩
  case round =>
    obtain ⟨k, vs, hk, rfl, rfl, HR, HB⟩ := hrel
    by_cases hlt : k < n
    · have hlt' : k < l.length := by rw [← Hn.out]; exact hlt
      have hlti : (k : Int) < (n : Int) := by omega
      have HBw : Hid (Below w.heap.size w wr) := bel_of HB0.out HB.out HB0.out.size
      obtain ⟨g, off, rfl, hrg⟩ := (rngU HS.out).2 wr HBw.out k hlt'
      have hbd := HBd.out _ (List.getElem_mem hlt')
      have hst : tgs witX ((l.take (k + 1)).map pr) s = if witX s (sr l[k]) then tgs witX ((l.take k).map pr) s ++ [ds l[k]] else tgs witX ((l.take k).map pr) s := by rw [take_at hlt', List.map_append]; exact tgs_app _ _ _
      obtain ⟨p, hp⟩ : ∃ p, p = l[k] := ⟨_, rfl⟩
      rw [← hp] at hrg hbd hst
      obtain ⟨_, hq1, _, hq2⟩ := okR_sr hbd.2 hbd.1
      have Hlen : Hid ((tgs witX ((l.take k).map pr) s).length ≤ 64) := by
        show (tgs witX ((l.take k).map pr) s).length ≤ 64
        unfold tgs; rw [List.length_map]
        exact Nat.le_trans (List.length_filter_le _ _) (by rw [List.length_map, List.length_take]; omega)
      have x0 : wr.cell? ⟨g, off + k * 12, none⟩ = some (.int .i64 p.i) := hrg 0 _ rfl
      have x1 : wr.cell? ⟨g, off + k * 12 + 1, none⟩ = some (.int .u32 (p.s : Int)) := hrg 1 _ rfl
      have x2 : wr.cell? ⟨g, off + k * 12 + 2, none⟩ = some (.int .i64 p.sl) := hrg 2 _ rfl
      have x3 : wr.cell? ⟨g, off + k * 12 + 3, none⟩ = some (.int .u32 (p.d : Int)) := hrg 3 _ rfl
      have x4 : wr.cell? ⟨g, off + k * 12 + 4, none⟩ = some (.int .i64 p.dl) := hrg 4 _ rfl
      have x5 : wr.cell? ⟨g, off + k * 12 + 5, none⟩ = some (.int .u16 (p.p.1 : Int)) := hrg 5 _ rfl
      have x6 : wr.cell? ⟨g, off + k * 12 + 6, none⟩ = some (.int .u16 (p.p.2 : Int)) := hrg 6 _ rfl
      have x7 : wr.cell? ⟨g, off + k * 12 + 7, none⟩ = some (.int .u16 (p.q.1 : Int)) := hrg 7 _ rfl
      have x8 : wr.cell? ⟨g, off + k * 12 + 8, none⟩ = some (.int .u16 (p.q.2 : Int)) := hrg 8 _ rfl
      have x9 : wr.cell? ⟨g, off + k * 12 + 9, none⟩ = some (.int .u8 (p.m.1 : Int)) := hrg 9 _ rfl
      have x10 : wr.cell? ⟨g, off + k * 12 + 10, none⟩ = some (.int .u8 (p.m.2 : Int)) := hrg 10 _ rfl
      have x11 : wr.cell? ⟨g, off + k * 12 + 11, none⟩ = some (.int .i64 p.act) := hrg 11 _ rfl
      have hW := fun W => withinX s (sr p) W ho hbd.1.1
      have hqs : (sr p).1 = p.s := rfl
      rw [hqs, ← hq1] at hW
      have Hst : Hid _ := hst
      obtain ⟨W1, hW1⟩ : ∃ W1, W1 = wr.alloc (.cells #[.int .i64 p.i, .int .u32 (p.s : Int), .int .i64 p.sl, .int .u32 (p.d : Int), .int .i64 p.dl, .int .u16 (p.p.1 : Int), .int .u16 (p.p.2 : Int), .int .u16 (p.q.1 : Int), .int .u16 (p.q.2 : Int), .int .u8 (p.m.1 : Int), .int .u8 (p.m.2 : Int), .int .i64 p.act] 54) := ⟨_, rfl⟩
      have hbW : Below wr.heap.size wr W1 := by rw [hW1]; exact (Below.refl _ _).alloc (Nat.le_refl _) _
      have HR1 : Hid (RowX W1 w0.heap.size vs (tgs witX ((l.take k).map pr) s)) := HR.out.on hbW
      have HB1 : Hid (Below w0.heap.size w0 W1) := HB.out.trans (hbW.mono HB.out.size)
      have HX : Hid (W1.heap[wr.heap.size]? = some (.cells #[.int .i64 p.i, .int .u32 (p.s : Int), .int .i64 p.sl, .int .u32 (p.d : Int), .int .i64 p.dl, .int .u16 (p.p.1 : Int), .int .u16 (p.p.2 : Int), .int .u16 (p.q.1 : Int), .int .u16 (p.q.2 : Int), .int .u8 (p.m.1 : Int), .int .u8 (p.m.2 : Int), .int .i64 p.act] 54 (0, 0))) := by rw [hW1]; exact blk_new wr _
      have y1 : W1.cell? ⟨wr.heap.size, 1, none⟩ = some (.int .u32 (p.s : Int)) := blk_cell HX.out rfl
      have y2 : W1.cell? ⟨wr.heap.size, 2, none⟩ = some (.int .i64 p.sl) := blk_cell HX.out rfl
      have z0 := cell_on1 HB1.out Hz0.out
      have z1 := cell_on1 HB1.out Hz1.out
      have hv : (#[.int .u32 (p.d : Int), .int .i64 p.dl] : Array Value) = #[.int .u32 ((ds p).1 : Int), .int .i64 ((ds p).2 : Int)] := by rw [← hq2]; rfl
      have Hv : Hid _ := hv
      clear hrg hbd hp hst hq1 hq2 hqs hbW HR HB hv
      subst hW1
      cases hwi : witX s (sr p) with
      | false =>
        rw [hwi] at hW
        have Hst2 : Hid (tgs witX ((l.take (k + 1)).map pr) s = tgs witX ((l.take k).map pr) s) := by have := Hst.out; rw [hwi] at this; exact this
        clear Hst hwi
        go_wp2_with (go_at_call 63; refine (hW _).mono ?_; rintro e w4 ⟨rfl, hb4⟩)
        have HR4 : Hid (RowX w4 w0.heap.size vs (tgs witX ((l.take (k + 1)).map pr) s)) := by rw [Hst2.out]; exact HR1.out.on (by assumption)
        have HB4 : Hid (Below w0.heap.size w0 w4) := bel_of HB1.out (by assumption) HB1.out.size
        go_roundw
        case rel => exact ⟨k + 1, _, by omega, rfl, by go_num, HR4.out, HB4.out⟩
        case measure => simp [intOf]; omega
      | true =>
        rw [hwi] at hW
        have Hst2 : Hid (tgs witX ((l.take (k + 1)).map pr) s = tgs witX ((l.take k).map pr) s ++ [ds p]) := by have := Hst.out; rw [hwi] at this; exact this
        clear Hst hwi
        go_wp2_with (go_at_call 63; fail)
        refine (hW _).mono ?_
        rintro e w4 ⟨rfl, hb4⟩
        have HX4 : Hid (w4.heap[wr.heap.size]? = some (.cells #[.int .i64 p.i, .int .u32 (p.s : Int), .int .i64 p.sl, .int .u32 (p.d : Int), .int .i64 p.dl, .int .u16 (p.p.1 : Int), .int .u16 (p.p.2 : Int), .int .u16 (p.q.1 : Int), .int .u16 (p.q.2 : Int), .int .u8 (p.m.1 : Int), .int .u8 (p.m.2 : Int), .int .i64 p.act] 54 (0, 0))) := blk_on HX.out hb4
        have y3 : w4.cell? ⟨wr.heap.size, 3, none⟩ = some (.int .u32 (p.d : Int)) := blk_cell HX4.out rfl
        have y4 : w4.cell? ⟨wr.heap.size, 4, none⟩ = some (.int .i64 p.dl) := blk_cell HX4.out rfl
        have HR4 : Hid (RowX w4 w0.heap.size vs (tgs witX ((l.take k).map pr) s)) := HR1.out.on hb4
        have HB4 : Hid (Below w0.heap.size w0 w4) := bel_of HB1.out hb4 HB1.out.size
        clear hb4 hW HX HR1 HB1 y1 y2 z0 z1 x0 x1 x2 x3 x4 x5 x6 x7 x8 x9 x10 x11
        have Hlen2 : Hid ((tgs witX ((l.take k).map pr) s).length + [ds p].length ≤ 4294967296) := by
          have := Hlen.out
          show (tgs witX ((l.take k).map pr) s).length + 1 ≤ 4294967296
          omega
        have hone : Hid (RowX (w4.alloc (.cells #[.int .u32 (p.d : Int), .int .i64 p.dl] 50)) w0.heap.size (.slice (some ⟨w4.heap.size, 0, none⟩) 1 1) [ds p]) := by
          rw [Hv.out]; exact RowX.one w4 _ (ds p) HB4.out.size
        have HR5 : Hid (RowX (w4.alloc (.cells #[.int .u32 (p.d : Int), .int .i64 p.dl] 50)) w0.heap.size vs (tgs witX ((l.take k).map pr) s)) := HR4.out.alloc _
        have HB5 : Hid (Below w0.heap.size w0 (w4.alloc (.cells #[.int .u32 (p.d : Int), .int .i64 p.dl] 50))) := HB4.out.alloc HB4.out.size _
        go_wp2_with (at_builtin; refine wpList_appendX rfl (.tmp 18) (.tmp 21) rfl w0.heap.size vs _ rfl HR5.out w0.heap.size _ [ds p] rfl hone.out HB5.out.size Hlen2.out ?_; intro v6 w6 hr6 hg6)
        have HR6 : Hid (RowX w6 w0.heap.size v6 (tgs witX ((l.take (k + 1)).map pr) s)) := by rw [Hst2.out]; exact hr6
        have HB6 : Hid (Below w0.heap.size w0 w6) := HB5.out.grown hg6 HB5.out.size (fun q hq => (HR5.out.lt q hq).1)
        clear hr6 hg6
        go_roundw
        case rel => exact ⟨k + 1, _, by omega, rfl, by go_num, HR6.out, HB6.out⟩
        case measure => simp [intOf]; omega
    · obtain rfl : k = n := by omega
      have hni : ¬ (k : Int) < (k : Int) := by omega
      have HR' : Hid (RowX wr w.heap.size vs (tgs witX (l.map pr) s)) := by
        have := HR.out
        rw [Hn.out, List.take_length] at this
        exact this.base (Nat.le_of_lt Hsz.out)
      clear HR
      go_wp2
      go_ret
      exact ⟨_, rfl, HR'.out, bel_of HB0.out HB.out HB0.out.size⟩

theorem sum_step {f : Nat × Nat → Nat} {u : List (Nat × Nat)} {k : Nat} (hk : k < u.length) : sumF f (u.take (k + 1)) = sumF f (u.take k) + f u[k] := by
  rw [take_at hk, sumF_app]; simp [sumF]
theorem cnt_step {q : Nat × Nat → Bool} {l : List (Nat × Nat)} {k : Nat} (hk : k < l.length) : (l.take (k + 1)).countP q = (l.take k).countP q + if q l[k] then 1 else 0 := by
  rw [take_at hk, List.countP_append, List.countP_singleton]
set_option maxRecDepth 20000 in
set_option maxHeartbeats 4000000 in
theorem heldC (l : List (Nat × Nat)) (v : Value) (w : World) (hs : SrcX w v l) (hl : l.length ≤ 64) (hb : ∀ x ∈ l, x.1 < 4294967296) :
    Calls Tryz.prog 38 #[v] w fun e w' => e = .returned (.int .i64 (hel witX l : Nat)) ∧ Below w.heap.size w w' := by
  have hU := unlX l v w hs (by omega)
  have HS : Hid (SrcX w v l) := hs
  have HBd : Hid (∀ x ∈ l, x.1 < 4294967296) := hb
  obtain ⟨ad, cap, rfl, hcp, _⟩ := hs
  obtain ⟨n, hn⟩ : ∃ n, n = l.length := ⟨_, rfl⟩
  rw [← hn] at HS hl hU ⊢
  have Hn : Hid (n = l.length) := hn
  clear hn hb hcp
  obtain ⟨A, hA⟩ : ∃ A, A = hel witX l := ⟨_, rfl⟩
  rw [← hA]
  have HA : Hid (A = hel witX l) := hA
  clear hA
  go_enter Tryz.func38, Tryz.ntmps38
  go_wp2_with (fail)
  refine hU.mono ?_
  rintro e w1 ⟨v3, u, rfl, hm, hp, hr1, hb1⟩
  have hnd : u.Nodup := List.Pairwise.imp (S := fun a b => a ≠ b) (fun {a b} hab e => by subst e; unfold ltX at hab; omega) hp
  have hul : u.length ≤ 64 := by
    have : u.length ≤ l.length := List.Nodup.length_le_of_subset hnd (fun x hx => (hm x).1 hx)
    have := Hn.out; omega
  have HE : Hid (sumF (fun p => l.countP (witX p)) u = A) := by
    show sumF (fun p => l.countP (witX p)) u = A
    rw [HA.out]; exact hel_of hnd hm
  have HM : Hid (∀ x, x ∈ u ↔ x ∈ l) := hm
  have HR1 : Hid (SrcX w1 v3 u) := hr1.src
  have HB1 : Hid (Below w.heap.size w w1) := hb1
  obtain ⟨au, cu, rfl, _, _⟩ := hr1.form
  obtain ⟨m, hmm⟩ : ∃ m, m = u.length := ⟨_, rfl⟩
  rw [← hmm] at HR1 hul ⊢
  have Hm : Hid (m = u.length) := hmm
  clear hU hm hp hr1 hb1 hnd hmm HA
  go_wp2_with (fail)
  go_loopw [3, 11] (fun vs vi wr => ∃ i : Nat, i ≤ m ∧ vs = .int .i64 ((sumF (fun p => l.countP (witX p)) (u.take i) : Nat) : Int) ∧ vi = .int .i64 (i : Int) ∧ Hid (Below w1.heap.size w1 wr)) (fun _ vi _ => m - (intOf vi).toNat)
  case atStart => exact ⟨0, Nat.zero_le _, rfl, rfl, Below.refl _ _⟩
  case round =>
    obtain ⟨i, hi, rfl, rfl, HB⟩ := hrel
    by_cases hlt : i < m
    · have hlt' : i < u.length := by rw [← Hm.out]; exact hlt
      have hlti : (i : Int) < (m : Int) := by omega
      obtain ⟨g, off, rfl, c0, c1⟩ := (srcX_at HR1.out).2 HB.out i hlt'
      have hst := sum_step (f := fun p => l.countP (witX p)) hlt'
      have hbo := sumF_bound (f := fun p => l.countP (witX p)) (l := u.take i) (k := 64) (fun x _ => Nat.le_trans List.countP_le_length (by rw [← Hn.out]; exact hl))
      have hbo2 : sumF (fun p => l.countP (witX p)) (u.take i) ≤ 64 * 64 := Nat.le_trans hbo (by rw [List.length_take]; exact Nat.mul_le_mul_right _ (by omega))
      obtain ⟨p, hp⟩ : ∃ p, p = u[i] := ⟨_, rfl⟩
      rw [← hp] at c0 c1 hst
      have hpl : p.1 < 4294967296 := HBd.out p ((HM.out p).1 (by rw [hp]; exact List.getElem_mem _))
      obtain ⟨W1, hW1⟩ : ∃ W1, W1 = wr.alloc (.cells #[.int .u32 (p.1 : Int), .int .i64 (p.2 : Int)] 50) := ⟨_, rfl⟩
      have hbW : Below wr.heap.size wr W1 := by rw [hW1]; exact (Below.refl _ _).alloc (Nat.le_refl _) _
      have HBW : Hid (Below w1.heap.size w1 W1) := HB.out.trans (hbW.mono HB.out.size)
      have Hy0 : Hid (W1.cell? ⟨wr.heap.size, 0, none⟩ = some (.int .u32 (p.1 : Int))) := by rw [hW1]; exact blk_cell (blk_new wr _) rfl
      have Hy1 : Hid (W1.cell? ⟨wr.heap.size, 1, none⟩ = some (.int .i64 (p.2 : Int))) := by rw [hW1]; exact blk_cell (blk_new wr _) rfl
      have HBwW : Hid (Below w.heap.size w W1) := bel_of HB1.out HBW.out HB1.out.size
      have Hst : Hid _ := hst
      have hW1s : wr.alloc (.cells #[.int .u32 (p.1 : Int), .int .i64 (p.2 : Int)] 50) = W1 := hW1.symm
      clear hst hbo hp hbW hW1 HB
      generalize sumF (fun p => l.countP (witX p)) (u.take i) = S0 at *
      go_wp2_with (fail)
      try simp only [hW1s]
      clear c0 c1 hW1s
      generalize wr.heap.size = BB at *
      go_loopw [3, 17] (fun vs vj wr => ∃ j : Nat, j ≤ n ∧ vs = .int .i64 (((S0 + (l.take j).countP (witX p)) : Nat) : Int) ∧ vj = .int .i64 (j : Int) ∧ Hid (Below W1.heap.size W1 wr)) (fun _ vj _ => n - (intOf vj).toNat)
      case atStart => exact ⟨0, Nat.zero_le _, by simp, rfl, Below.refl _ _⟩
      case round =>
        obtain ⟨j, hj, rfl, rfl, HBq⟩ := hrel
        by_cases hltj : j < n
        · have hltj' : j < l.length := by rw [← Hn.out]; exact hltj
          have hltji : (j : Int) < (n : Int) := by omega
          have HBwq : Hid (Below w.heap.size w wr) := bel_of HBwW.out HBq.out HBwW.out.size
          obtain ⟨g2, off2, rfl, c0, c1⟩ := (srcX_at HS.out).2 HBwq.out j hltj'
          have hct := cnt_step (q := witX p) hltj'
          have hcb : (l.take j).countP (witX p) ≤ 64 := Nat.le_trans List.countP_le_length (by rw [List.length_take]; omega)
          obtain ⟨q, hq⟩ : ∃ q, q = l[j] := ⟨_, rfl⟩
          rw [← hq] at c0 c1 hct
          have hql : q.1 < 4294967296 := HBd.out q (by rw [hq]; exact List.getElem_mem _)
          have hW := fun W => withinX p q W hpl hql
          obtain ⟨W2, hW2⟩ : ∃ W2, W2 = wr.alloc (.cells #[.int .u32 (q.1 : Int), .int .i64 (q.2 : Int)] 50) := ⟨_, rfl⟩
          have hbW2 : Below wr.heap.size wr W2 := by rw [hW2]; exact (Below.refl _ _).alloc (Nat.le_refl _) _
          have HB2 : Hid (Below W1.heap.size W1 W2) := HBq.out.trans (hbW2.mono HBq.out.size)
          have y0 := cell_on1 HB2.out Hy0.out
          have y1 := cell_on1 HB2.out Hy1.out
          have q0 : W2.cell? ⟨wr.heap.size, 0, none⟩ = some (.int .u32 (q.1 : Int)) := by rw [hW2]; exact blk_cell (blk_new wr _) rfl
          have q1 : W2.cell? ⟨wr.heap.size, 1, none⟩ = some (.int .i64 (q.2 : Int)) := by rw [hW2]; exact blk_cell (blk_new wr _) rfl
          have Hct : Hid _ := hct
          clear hct hq hbW2 HBq HBwq
          generalize (l.take j).countP (witX p) = C at *
          cases hwi : witX p q with
          | false =>
            rw [hwi] at hW
            have Hct2 : Hid ((l.take (j + 1)).countP (witX p) = C) := show (l.take (j + 1)).countP (witX p) = C by have := Hct.out; rw [hwi] at this; simpa using this
            clear Hct hwi
            subst hW2
            go_wp2_with (go_at_call 63; refine (hW _).mono ?_; rintro e w4 ⟨rfl, hb4⟩)
            have HB4 : Hid (Below W1.heap.size W1 w4) := bel_of HB2.out (by assumption) HB2.out.size
            go_roundw
            case rel => exact ⟨j + 1, by omega, (by rw [Hct2.out]; first | rfl | simp), by go_num, HB4.out⟩
            case measure => simp [intOf]; omega
          | true =>
            rw [hwi] at hW
            have Hct2 : Hid ((l.take (j + 1)).countP (witX p) = C + 1) := show (l.take (j + 1)).countP (witX p) = C + 1 by have := Hct.out; rw [hwi] at this; simpa using this
            clear Hct hwi
            subst hW2
            go_wp2_with (go_at_call 63; refine (hW _).mono ?_; rintro e w4 ⟨rfl, hb4⟩)
            have HB4 : Hid (Below W1.heap.size W1 w4) := bel_of HB2.out (by assumption) HB2.out.size
            go_roundw
            case rel => exact ⟨j + 1, by omega, by rw [Hct2.out]; go_num, by go_num, HB4.out⟩
            case measure => simp [intOf]; omega
        · obtain rfl : j = n := by omega
          have hnj : ¬ (j : Int) < (j : Int) := by omega
          have HB5 : Hid (Below w1.heap.size w1 wr) := bel_of HBW.out HBq.out HBW.out.size
          have Hfin : Hid (sumF (fun p => l.countP (witX p)) (u.take (i + 1)) = S0 + (l.take j).countP (witX p)) := show _ = S0 + (l.take j).countP (witX p) by rw [Hst.out, Hn.out, List.take_length]
          generalize (l.take j).countP (witX p) = C at *
          go_wp2
          go_roundw
          case rel => exact ⟨i + 1, by omega, (by rw [Hfin.out]), by go_num, HB5.out⟩
          case measure => simp [intOf]; omega
    · obtain rfl : i = m := by omega
      have hni : ¬ (i : Int) < (i : Int) := by omega
      have et : u.take i = u := by rw [Hm.out]; exact List.take_length
      rw [et]
      go_wp2
      go_ret
      exact ⟨ret_int (by rw [HE.out]), bel_of HB1.out HB.out HB1.out.size⟩
end Go.Proofs.YtcjpjofoddpfhaaGreat
