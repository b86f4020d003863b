/-
  GgGA: NqQ NqK NqS NqT NqV GvV PnM GdM, one behind the other (tools/merge.py).
-/
import Derived.Test.YtgidohnikggjfaaGreatNqO
import Derived.Test.YtgidohnikggjfaaGreatTbRc
import Derived.Test.YtgidohnikggjfaaGreatNsPm
import Derived.Test.YtgidohnikggjfaaGreatPnPl
import Derived.Test.YtgidohnikggjfaaGreatGdPl
/-
  nest's check, sources, targets, held, Prune, Grid and Pairs. Written by tools/mkNsQ.py.
-/
namespace Go.Proofs.YtgidohnikggjfaaGreat
open Go.RowKit
set_option linter.unusedVariables false
set_option linter.unusedSimpArgs false

theorem rngU {w : World} {ad : Option Addr} {n cap : Nat} {l : List Ru} (h : SrcU w (.slice ad n cap) l) : n = l.length ∧ (∀ W, Below w.heap.size w W → ∀ k (hk : k < l.length), ∃ g off, ad = some ⟨g, off, none⟩ ∧ ∀ j u, (encU (l[k]'hk))[j]? = some u → W.cell? ⟨g, off + k * 12 + j, none⟩ = some u) := by
  obtain ⟨ad', cap', e, hc, h2⟩ := h
  obtain ⟨rfl, e2, rfl⟩ : ad = ad' ∧ n = l.length ∧ cap = cap' := by cases e; exact ⟨rfl, rfl, rfl⟩
  refine ⟨e2, fun W hb k hk => ?_⟩
  obtain ⟨g, off, e, h3⟩ := h2 (by omega)
  refine ⟨g, off, e, fun j u hu => ?_⟩
  have hj : j < 12 := by
    have := (List.getElem?_eq_some_iff.1 hu).1
    simpa [encU] using this
  have := h3 k hk j hj
  rw [show off + k * 12 + j = off + (k * 12 + j) by omega]
  exact cell_on1 hb (this.trans hu)
theorem only_above {w w1 w2 : World} {o : Obj} (h : Below w.heap.size w w1) (ho : Only w1.heap.size (w1.alloc o) w2) : Below w.heap.size w w2 ∧ Below w1.heap.size w1 w2 := by
  have hb : Below w1.heap.size w1 w2 := ((Below.refl _ _).alloc (Nat.le_refl _) _).trans (ho.below (Nat.le_refl _))
  exact ⟨h.trans (hb.mono h.size), hb⟩
/-- How many rules match by their prefixes. -/
def prsB (h : Hd) (R : Ru) : Bool := okR R && (Pf.hasB R.s R.sl h.s && Pf.hasB R.d R.dl h.d)
def prsN (l : List Ru) (h : Hd) : Nat := l.countP (prsB h)
theorem prs_step {l : List Ru} {h : Hd} {k : Nat} (hk : k < l.length) : ((l.take (k + 1)).countP (prsB h)) = (l.take k).countP (prsB h) + if prsB h l[k] then 1 else 0 := by
  rw [take_at hk, List.countP_append, List.countP_singleton]
end Go.Proofs.YtgidohnikggjfaaGreat
/-
  nest's check. Written by tools/mkNsK.py.
-/
namespace Go.Proofs.YtgidohnikggjfaaGreat
open Go.RowKit
set_option linter.unusedVariables false
set_option linter.unusedSimpArgs false


set_option maxRecDepth 20000 in
set_option maxHeartbeats 2000000 in
theorem nIdC (x : Int) (R : Ru) (B : Nat) (w : World) (hB : w.cell? ⟨B, 0, none⟩ = some (.int .i64 x)) :
    Calls Tryz.prog 89 #[.agg #[.int .i64 R.i, .int .u32 (R.s : Int), .int .i64 R.sl, .int .u32 (R.d : Int), .int .i64 R.dl, .int .u16 (R.p.1 : Int), .int .u16 (R.p.2 : Int), .int .u16 (R.q.1 : Int), .int .u16 (R.q.2 : Int), .int .u8 (R.m.1 : Int), .int .u8 (R.m.2 : Int), .int .i64 R.act], .pointer (some ⟨B, 0, none⟩)] w fun e w' => e = .returned (.bool (decide (R.i = x))) ∧ Below w.heap.size w w' := by
  have hB2 := fun o => cell_on1 ((Below.refl _ w).alloc (Nat.le_refl _) o) hB
  obtain ⟨b, hb⟩ : ∃ b, b = decide (R.i = x) := ⟨_, rfl⟩
  have hb' : (R.i == x) = b := by rw [hb]; rfl
  rw [← hb]
  have hlt := World.block_lt_of_cell? w _ hB
  have hne : ¬ B = w.heap.size := by simp at hlt; omega
  clear hb
  go_enter Tryz.func89, Tryz.ntmps89
  go_wp2
  go_ret
  exact ⟨by simp [← hb'], (Below.refl _ _).alloc (Nat.le_refl _) _⟩
set_option maxRecDepth 20000 in
set_option maxHeartbeats 8000000 in
theorem nIndexC (v : Value) (l : List Ru) (x : Int) (B : Nat) (w : World) (hs : SrcU w v l) (hB : w.cell? ⟨B, 0, none⟩ = some (.int .i64 x)) (hl : l.length ≤ 200000) :
    Calls Tryz.prog 86 #[v, .func (.func 89) #[] #[.pointer (some ⟨B, 0, none⟩)]] w fun e w' => e = .returned (.int .i64 (fnd l x)) ∧ Below w.heap.size w w' := by
  obtain ⟨ad, cap, rfl, hcap, hat⟩ := hs
  obtain ⟨A, hA⟩ : ∃ A, A = fnd l x := ⟨_, rfl⟩
  rw [← hA]
  have HA : Hid (A = fndK x (l.drop 0) 0) := hA
  clear hA
  obtain ⟨n, hn⟩ : ∃ n, n = l.length := ⟨_, rfl⟩
  have Hn : Hid (n = l.length) := hn
  have HAt : Hid (∀ (W : World), Below w.heap.size w W → ∀ k (hk : k < l.length), ∃ g off, ad = some ⟨g, off, none⟩ ∧ g < W.heap.size ∧ ∀ j, j < 12 → W.cell? ⟨g, off + (k * 12 + j), none⟩ = (encU (l[k]'hk))[j]?) := fun W hb k hk => by
    obtain ⟨g, off, e, h3⟩ := hat (by omega)
    have h0 := h3 k hk 0 (by decide)
    have hg : g < w.heap.size := World.block_lt_of_cell? w _ (h0.trans rfl)
    exact ⟨g, off, e, by have := hb.size; omega, fun j hj => by
      have := h3 k hk j hj
      obtain ⟨u, hu⟩ := encU_some (l[k]'hk) hj
      rw [hb.cell (p := ⟨g, off + (k * 12 + j), none⟩) hg]; exact this⟩
  have HI : Hid (∀ (W : World) (R : Ru), Below w.heap.size w W → Calls Tryz.prog 89 #[.agg #[.int .i64 R.i, .int .u32 (R.s : Int), .int .i64 R.sl, .int .u32 (R.d : Int), .int .i64 R.dl, .int .u16 (R.p.1 : Int), .int .u16 (R.p.2 : Int), .int .u16 (R.q.1 : Int), .int .u16 (R.q.2 : Int), .int .u8 (R.m.1 : Int), .int .u8 (R.m.2 : Int), .int .i64 R.act], .pointer (some ⟨B, 0, none⟩)] W fun e w' => e = .returned (.bool (decide (R.i = x))) ∧ Below W.heap.size W w') := fun W R hb => nIdC x R B W (cell_on1 hb hB)
  rw [← hn] at hl hcap ⊢
  have hn0 : (n : Int) ≤ 200000 := by omega
  clear hn hat hB
  go_enter Tryz.func86, Tryz.ntmps86
  go_wp2_with (fail)
  go_loopw [8] (fun i wr => ∃ k : Nat, k ≤ n ∧ i = .int .i64 (k : Int) ∧ Hid (Below w.heap.size w wr) ∧ Hid (A = fndK x (l.drop k) k)) (fun i _ => n - (intOf i).toNat)
  case atStart => exact ⟨0, Nat.zero_le _, rfl, Below.refl _ _, HA.out⟩
  case round =>
    obtain ⟨k, hk, rfl, HB, HK⟩ := hrel
    by_cases hlt : k < n
    · have hkl : k < l.length := by rw [← Hn.out]; exact hlt
      obtain ⟨g, off, rfl, hg, hc⟩ := HAt.out wr HB.out k hkl
      obtain ⟨p, hp⟩ : ∃ p, p = l[k]'hkl := ⟨_, rfl⟩
      rw [← hp] at hc
      have x0 : wr.cell? ⟨g, off + k * 12, none⟩ = some (.int .i64 p.i) := hc 0 (by decide)
      have x1 : wr.cell? ⟨g, off + k * 12 + 1, none⟩ = some (.int .u32 (p.s : Int)) := hc 1 (by decide)
      have x2 : wr.cell? ⟨g, off + k * 12 + 2, none⟩ = some (.int .i64 p.sl) := hc 2 (by decide)
      have x3 : wr.cell? ⟨g, off + k * 12 + 3, none⟩ = some (.int .u32 (p.d : Int)) := hc 3 (by decide)
      have x4 : wr.cell? ⟨g, off + k * 12 + 4, none⟩ = some (.int .i64 p.dl) := hc 4 (by decide)
      have x5 : wr.cell? ⟨g, off + k * 12 + 5, none⟩ = some (.int .u16 (p.p.1 : Int)) := hc 5 (by decide)
      have x6 : wr.cell? ⟨g, off + k * 12 + 6, none⟩ = some (.int .u16 (p.p.2 : Int)) := hc 6 (by decide)
      have x7 : wr.cell? ⟨g, off + k * 12 + 7, none⟩ = some (.int .u16 (p.q.1 : Int)) := hc 7 (by decide)
      have x8 : wr.cell? ⟨g, off + k * 12 + 8, none⟩ = some (.int .u16 (p.q.2 : Int)) := hc 8 (by decide)
      have x9 : wr.cell? ⟨g, off + k * 12 + 9, none⟩ = some (.int .u8 (p.m.1 : Int)) := hc 9 (by decide)
      have x10 : wr.cell? ⟨g, off + k * 12 + 10, none⟩ = some (.int .u8 (p.m.2 : Int)) := hc 10 (by decide)
      have x11 : wr.cell? ⟨g, off + k * 12 + 11, none⟩ = some (.int .i64 p.act) := hc 11 (by decide)
      have hlt' : (k : Int) < (n : Int) := by omega
      have hI := HI.out wr p HB.out
      clear hc HI
      by_cases hx : p.i = x
      · have HV : Hid (A = (k : Int)) := HK.out.trans (fndK_hit hkl (by rw [← hp]; exact hx))
        rw [decide_eq_true hx] at hI
        clear hp hx HK HA HAt
        go_wp2_with (fail)
        refine hI.mono ?_
        rintro e w1 ⟨rfl, hb1⟩
        have HB1 : Hid (Below w.heap.size w w1) := HB.out.trans (hb1.mono HB.out.size)
        clear hb1 x0 x1 x2 x3 x4 x5 x6 x7 x8 x9 x10 x11
        go_wp2_with (fail)
        go_ret
        exact ⟨ret_int HV.out.symm, HB1.out⟩
      · have HK2 : Hid (A = fndK x (l.drop (k + 1)) (k + 1)) := HK.out.trans (fndK_no hkl (by rw [← hp]; exact hx))
        rw [decide_eq_false hx] at hI
        clear hp hx HK HA HAt hkl
        go_wp2_with (fail)
        refine hI.mono ?_
        rintro e w1 ⟨rfl, hb1⟩
        have HB1 : Hid (Below w.heap.size w w1) := HB.out.trans (hb1.mono HB.out.size)
        clear hb1 x0 x1 x2 x3 x4 x5 x6 x7 x8 x9 x10 x11
        go_wp2_with (fail)
        go_roundw
        case rel => exact ⟨k + 1, by omega, by go_num, HB1.out, HK2.out⟩
        case measure => simp [intOf]; omega
    · obtain rfl : k = n := by omega
      have HV : Hid (A = -1) := HK.out.trans (fndK_end (by rw [← Hn.out]; exact Nat.le_refl _))
      clear HK HA HAt HI
      go_wp2_with (fail)
      go_ret
      exact ⟨ret_int HV.out.symm, HB.out⟩

theorem containsC (v : Value) (l : List Ru) (x : Int) (B : Nat) (w : World) (hs : SrcU w v l) (hB : w.cell? ⟨B, 0, none⟩ = some (.int .i64 x)) (hl : l.length ≤ 200000) :
    Calls Tryz.prog 88 #[v, .func (.func 89) #[] #[.pointer (some ⟨B, 0, none⟩)]] w fun e w' => e = .returned (.bool (decide (0 ≤ fnd l x))) ∧ Below w.heap.size w w' := by
  have hI := nIndexC v l x B w hs hB hl
  generalize fnd l x = F at *
  clear hs
  go_enter Tryz.func88, Tryz.ntmps88
  go_wp2_with (go_at_call 86; fail)
  refine hI.mono ?_
  rintro e w1 ⟨rfl, hb1⟩
  have HB1 : Hid (Below w.heap.size w w1) := hb1
  clear hb1 hI
  go_wp2
  go_ret
  exact ⟨rfl, HB1.out⟩
theorem nCutH (w : World) (ad : Option Addr) (n cap h : Nat) (h2 : h ≤ cap) : (Instr.sliceAt 56 (.slice ad n cap) none (some (.int .i64 (h : Int))) none).run Tryz.prog w = .ok (.slice ad h cap) w := by
  rw [run_cut_h w ad n cap h h2, cutU_zero]
set_option maxRecDepth 20000 in
set_option maxHeartbeats 4000000 in
theorem checkLC (l : List Ru) (v : Value) (w : World) (hs : SrcU w v l) (hl : l.length ≤ 16777216) (hb : ∀ R ∈ l, BdR R) :
    Calls Tryz.prog 71 #[v] w fun e w' => e = .returned (.int .i64 (setE l 64)) ∧ Below w.heap.size w w' := by
  have HS : Hid (SrcU w v l) := hs
  have HBd : Hid (∀ R ∈ l, BdR R) := hb
  obtain ⟨ad, cap, rfl, hcp, _⟩ := hs
  have Hcap : Hid (l.length ≤ cap) := hcp.1
  obtain ⟨n, hn⟩ : ∃ n, n = l.length := ⟨_, rfl⟩
  rw [← hn] at HS hl Hcap ⊢
  have Hn : Hid (n = l.length) := hn
  obtain ⟨A, hA⟩ : ∃ A, A = setE l 64 := ⟨_, rfl⟩
  have HA : Hid (A = setK 64 (l.take 0) (l.drop 0)) := hA
  rw [← hA]
  clear hn hb hcp hA
  go_enter Tryz.func71, Tryz.ntmps71
  go_wp2_with (fail)
  go_loopw [9] (fun vi wr => ∃ k : Nat, k ≤ n ∧ k ≤ 64 ∧ vi = .int .i64 (k : Int) ∧ Hid (A = setK 64 (l.take k) (l.drop k)) ∧ Hid (Below w.heap.size w wr)) (fun vi _ => n - (intOf vi).toNat)
  case atStart => exact ⟨0, Nat.zero_le _, Nat.zero_le _, rfl, HA.out, Below.refl _ _⟩
  case round =>
    obtain ⟨k, hk, hk64, rfl, HK, HB⟩ := hrel
    clear HA
    by_cases hlt : k < n
    · have hlt' : k < l.length := by rw [← Hn.out]; exact hlt
      have hlti : (k : Int) < (n : Int) := by omega
      obtain ⟨g, off, rfl, hrg⟩ := (rngU HS.out).2 wr HB.out k hlt'
      have hbd := HBd.out _ (List.getElem_mem hlt')
      have hbad := fun e => setK_bad (l := l) (M := 64) hlt' e
      have hful := fun e h => setK_full (l := l) (M := 64) hlt' e h
      have hnxt := fun e h => setK_next (l := l) (M := 64) hlt' e h
      obtain ⟨p, hp⟩ : ∃ p, p = l[k] := ⟨_, rfl⟩
      rw [← hp] at hrg hbd hbad hful hnxt
      have HK2 : Hid (∀ q, q = l[k] → True) := fun _ _ => trivial
      clear hp
      have x0 : wr.cell? ⟨g, off + k * 12, none⟩ = some (.int .i64 p.i) := hrg 0 _ rfl
      have x1 : wr.cell? ⟨g, off + k * 12 + 1, none⟩ = some (.int .u32 (p.s : Int)) := hrg 1 _ rfl
      have x2 : wr.cell? ⟨g, off + k * 12 + 2, none⟩ = some (.int .i64 p.sl) := hrg 2 _ rfl
      have x3 : wr.cell? ⟨g, off + k * 12 + 3, none⟩ = some (.int .u32 (p.d : Int)) := hrg 3 _ rfl
      have x4 : wr.cell? ⟨g, off + k * 12 + 4, none⟩ = some (.int .i64 p.dl) := hrg 4 _ rfl
      have x5 : wr.cell? ⟨g, off + k * 12 + 5, none⟩ = some (.int .u16 (p.p.1 : Int)) := hrg 5 _ rfl
      have x6 : wr.cell? ⟨g, off + k * 12 + 6, none⟩ = some (.int .u16 (p.p.2 : Int)) := hrg 6 _ rfl
      have x7 : wr.cell? ⟨g, off + k * 12 + 7, none⟩ = some (.int .u16 (p.q.1 : Int)) := hrg 7 _ rfl
      have x8 : wr.cell? ⟨g, off + k * 12 + 8, none⟩ = some (.int .u16 (p.q.2 : Int)) := hrg 8 _ rfl
      have x9 : wr.cell? ⟨g, off + k * 12 + 9, none⟩ = some (.int .u8 (p.m.1 : Int)) := hrg 9 _ rfl
      have x10 : wr.cell? ⟨g, off + k * 12 + 10, none⟩ = some (.int .u8 (p.m.2 : Int)) := hrg 10 _ rfl
      have x11 : wr.cell? ⟨g, off + k * 12 + 11, none⟩ = some (.int .i64 p.act) := hrg 11 _ rfl
      have hC := fun W => checkRC p W hbd
      have HX : Hid ((wr.alloc (.cells #[.int .i64 p.i, .int .u32 (p.s : Int), .int .i64 p.sl, .int .u32 (p.d : Int), .int .i64 p.dl, .int .u16 (p.p.1 : Int), .int .u16 (p.p.2 : Int), .int .u16 (p.q.1 : Int), .int .u16 (p.q.2 : Int), .int .u8 (p.m.1 : Int), .int .u8 (p.m.2 : Int), .int .i64 p.act] 64)).heap[wr.heap.size]? = some (.cells #[.int .i64 p.i, .int .u32 (p.s : Int), .int .i64 p.sl, .int .u32 (p.d : Int), .int .i64 p.dl, .int .u16 (p.p.1 : Int), .int .u16 (p.p.2 : Int), .int .u16 (p.q.1 : Int), .int .u16 (p.q.2 : Int), .int .u8 (p.m.1 : Int), .int .u8 (p.m.2 : Int), .int .i64 p.act] 64 (0, 0))) := blk_new wr _
      have HB2 : Hid (Below w.heap.size w (wr.alloc (.cells #[.int .i64 p.i, .int .u32 (p.s : Int), .int .i64 p.sl, .int .u32 (p.d : Int), .int .i64 p.dl, .int .u16 (p.p.1 : Int), .int .u16 (p.p.2 : Int), .int .u16 (p.q.1 : Int), .int .u16 (p.q.2 : Int), .int .u8 (p.m.1 : Int), .int .u8 (p.m.2 : Int), .int .i64 p.act] 64))) := HB.out.alloc HB.out.size _
      have Hbad : Hid _ := hbad
      have Hful : Hid _ := hful
      have Hnxt : Hid _ := hnxt
      clear hrg hbd hbad hful hnxt
      go_wp2_with (go_at_call 68; fail)
      clear x0 x1 x2 x3 x4 x5 x6 x7 x8 x9 x10 x11
      refine (hC _).mono ?_
      rintro e w3 ⟨rfl, hb3⟩
      have HX3 : Hid (w3.heap[wr.heap.size]? = some (.cells #[.int .i64 p.i, .int .u32 (p.s : Int), .int .i64 p.sl, .int .u32 (p.d : Int), .int .i64 p.dl, .int .u16 (p.p.1 : Int), .int .u16 (p.p.2 : Int), .int .u16 (p.q.1 : Int), .int .u16 (p.q.2 : Int), .int .u8 (p.m.1 : Int), .int .u8 (p.m.2 : Int), .int .i64 p.act] 64 (0, 0))) := blk_on HX.out hb3
      have HB3 : Hid (Below w.heap.size w w3) := bel_of HB2.out hb3 HB2.out.size
      clear hb3 hC HX HB2
      cases hok : okR p with
      | false =>
        have hne := errs_no hok
        have hj : joinE (l.take k) p = (errs p).1 := by unfold joinE; rw [if_neg hne]
        have HV : Hid (A = (errs p).1) := by
          show A = (errs p).1
          rw [HK.out, Hbad.out (by rw [hj]; exact hne), hj]
        have hne' : ((errs p).1 != 0) = true := by simpa using hne
        clear hj hok hne
        generalize (errs p).1 = E1 at *
        generalize (errs p).2 = E2 at *
        go_wp2_with (fail)
        go_ret
        exact ⟨ret_int HV.out.symm, HB3.out⟩
      | true =>
        rw [errs_ok hok]
        have he0 : (errs p).1 = 0 := by rw [errs_ok hok]
        have hj : joinE (l.take k) p = if 0 ≤ fnd (l.take k) p.i then 111 else 0 := by unfold joinE; rw [if_pos he0]
        have hT := containsC (.slice (some ⟨g, off, none⟩) k cap) (l.take k) p.i wr.heap.size w3 (by
          have := (HS.out.keep HB3.out).cut 0 k (Nat.zero_le _) (by rw [← Hn.out]; exact hk)
          rw [cutU_zero, List.drop_zero] at this
          exact this) (blk_cell HX3.out rfl) (by rw [List.length_take]; omega)
        have hcut := fun W => nCutH W (some ⟨g, off, none⟩) n cap k (by have := Hcap.out; omega)
        clear hok he0
        by_cases hf : 0 ≤ fnd (l.take k) p.i
        · have HV : Hid (A = 111) := by
            show A = 111
            rw [if_pos hf] at hj
            rw [HK.out, Hbad.out (by rw [hj]; decide), hj]
          rw [decide_eq_true hf] at hT
          clear hj hf
          go_wp2_with (go_at_call 88; refine hT.mono ?_; rintro e w4 ⟨rfl, hb4⟩)
          have HB4 : Hid (Below w.heap.size w w4) := bel_of HB3.out (by assumption) HB3.out.size
          go_ret
          exact ⟨ret_int HV.out.symm, HB4.out⟩
        · rw [if_neg hf] at hj
          rw [decide_eq_false hf] at hT
          have Hj : Hid (joinE (l.take k) p = 0) := hj
          clear hj hf
          by_cases h64 : k = 64
          · have HV : Hid (A = 113) := by
              show A = 113
              rw [HK.out, Hful.out Hj.out (by omega)]
            have h64i : (64 : Int) ≤ (k : Int) := by omega
            clear h64
            go_wp2_with (go_at_call 88; refine hT.mono ?_; rintro e w4 ⟨rfl, hb4⟩)
            have HB4 : Hid (Below w.heap.size w w4) := bel_of HB3.out (by assumption) HB3.out.size
            go_ret
            exact ⟨ret_int HV.out.symm, HB4.out⟩
          · have HK3 : Hid (A = setK 64 (l.take (k + 1)) (l.drop (k + 1))) := by
              show A = setK 64 (l.take (k + 1)) (l.drop (k + 1))
              rw [HK.out, Hnxt.out Hj.out (by omega)]
            have h64i : ¬ (64 : Int) ≤ (k : Int) := by omega
            go_wp2_with (go_at_call 88; refine hT.mono ?_; rintro e w4 ⟨rfl, hb4⟩)
            have HB4 : Hid (Below w.heap.size w w4) := bel_of HB3.out (by assumption) HB3.out.size
            go_roundw
            case rel => exact ⟨k + 1, by omega, by omega, by go_num, HK3.out, HB4.out⟩
            case measure => simp [intOf]; omega
    · obtain rfl : k = n := by omega
      have hni : ¬ (k : Int) < (k : Int) := by omega
      have HV : Hid (A = 0) := by
        show A = 0
        rw [HK.out, setK_end (by rw [← Hn.out]; exact Nat.le_refl _)]
      go_wp2
      go_ret
      exact ⟨ret_int HV.out.symm, HB.out⟩
end Go.Proofs.YtgidohnikggjfaaGreat
/-
  nest's sources, targets, held, Grid and Prune. Written by tools/mkNsK.py.
-/
namespace Go.Proofs.YtgidohnikggjfaaGreat
open Go.RowKit
set_option linter.unusedVariables false
set_option linter.unusedSimpArgs false


def ruZ0 : Ru := ⟨0, 0, 0, 0, 0, (0, 0), (0, 0), (0, 0), 0⟩
/-- The prefixes of a rule that may be. -/
def sr (R : Ru) : Nat × Nat := (R.s, R.sl.toNat)
def ds (R : Ru) : Nat × Nat := (R.d, R.dl.toNat)
/-- Prefixes that may be. -/
def OkX (x : Nat × Nat) : Prop := x.1 < 4294967296 ∧ Pf.chk x.1 (x.2 : Int) = 0
def witX (a b : Nat × Nat) : Bool := Pf.witB a.1 (a.2 : Int) b.1 (b.2 : Int)
theorem witX_self {a : Nat × Nat} (h : OkX a) : witX a a = true := by
  unfold witX Pf.witB Pf.hasB
  obtain ⟨m, e, _, hm⟩ := Pf.chk_ok h.2
  have e' : a.2 = m := by omega
  simp only [h.2, decide_eq_true_eq, true_and]
  refine ⟨Int.le_refl _, ?_⟩
  rw [e']
  simpa using Pf.ct_self _ _ hm
theorem okR_sr {R : Ru} (h : okR R = true) (b : BdR R) : OkX (sr R) ∧ R.sl = ((sr R).2 : Int) ∧ OkX (ds R) ∧ R.dl = ((ds R).2 : Int) := by
  obtain ⟨_, h1, h2, _⟩ := (okR_iff R).1 h
  obtain ⟨m, e, _, _⟩ := Pf.chk_ok h1
  obtain ⟨m', e', _, _⟩ := Pf.chk_ok h2
  have q1 : R.sl = (R.sl.toNat : Int) := by omega
  have q2 : R.dl = (R.dl.toNat : Int) := by omega
  exact ⟨⟨b.1, by show Pf.chk R.s (R.sl.toNat : Int) = 0; rw [← q1]; exact h1⟩, q1, ⟨b.2.1, by show Pf.chk R.d (R.dl.toNat : Int) = 0; rw [← q2]; exact h2⟩, q2⟩
theorem withinX (a b : Nat × Nat) (w : World) (ha : a.1 < 4294967296) (hb : b.1 < 4294967296) :
    Calls Tryz.prog 91 #[.agg #[.int .u32 (a.1), .int .i64 (a.2)], .agg #[.int .u32 (b.1), .int .i64 (b.2)]] w fun e w' => e = .returned (.bool (witX a b)) ∧ Below w.heap.size w w' := Pf.within_any a.1 a.2 b.1 b.2 w ha hb
/-- A row of prefixes that is filled in. -/
def uptoX (f : Nat → Nat × Nat) (i n : Nat) : List (Nat × Nat) := (List.range n).map fun k => if k < i then f k else (0, 0)
theorem uptoX_len (f : Nat → Nat × Nat) (i n : Nat) : (uptoX f i n).length = n := by simp [uptoX]
theorem uptoX_set (f : Nat → Nat × Nat) {i n : Nat} (hi : i < n) : (uptoX f i n).take i ++ [f i] ++ (uptoX f i n).drop (i + [f i].length) = uptoX f (i + 1) n := by
  have e : (uptoX f i n).take i ++ [f i] ++ (uptoX f i n).drop (i + [f i].length) = (uptoX f i n).set i (f i) := by
    rw [List.set_eq_take_append_cons_drop, if_pos (by rw [uptoX_len]; exact hi)]; simp
  rw [e]
  apply List.ext_getElem
  · simp [uptoX]
  · intro k h1 h2
    rw [List.getElem_set]
    simp only [uptoX, List.getElem_map, List.getElem_range]
    by_cases e : i = k
    · subst e; simp
    · rw [if_neg e]
      by_cases h : k < i
      · rw [if_pos h, if_pos (by omega)]
      · rw [if_neg h, if_neg (by omega)]
theorem uptoX_zero (f : Nat → Nat × Nat) (n : Nat) : uptoX f 0 n = List.replicate n (0, 0) := by
  apply List.ext_getElem
  · simp [uptoX]
  · intro k h1 h2; simp [uptoX]
theorem uptoX_all {g : Ru → Nat × Nat} {l : List Ru} {f : Nat → Nat × Nat} (hf : ∀ k (hk : k < l.length), f k = g l[k]) : uptoX f l.length l.length = l.map g := by
  apply List.ext_getElem
  · simp [uptoX]
  · intro k h1 h2
    have hk : k < l.length := by simpa [uptoX] using h1
    simp [uptoX, hk, hf k hk]
theorem made_X (z : Array Value) (n : Nat) (hz : z = #[.int .u32 0, .int .i64 0]) : madeCells z (n * 2) = (flatX (List.replicate n (0, 0))).toArray := by
  subst hz
  apply Array.toList_inj.1
  apply List.ext_getElem
  · rw [Array.length_toList, size_madeCells]; simp [flatX_length]
  · intro k h1 h2
    have hk : k < n * 2 := by rw [Array.length_toList, size_madeCells] at h1; exact h1
    have f := flatX_at (List.replicate n (0, 0)) (k / 2) (by simp; omega) (k % 2) (by omega)
    rw [show k / 2 * 2 + k % 2 = k by omega] at f
    have h2' : k < (flatX (List.replicate n (0, 0))).length := by simpa using h2
    rw [List.getElem?_eq_getElem h2'] at f
    have hr : (madeCells #[Value.int .u32 0, .int .i64 0] (n * 2)).toList[k] = (encX (0, 0))[k % 2]'(by simp [encX]; omega) := by
      simp only [madeCells, Array.getElem_toList, Array.getElem_map, Array.getElem_range]
      have : k % 2 = 0 ∨ k % 2 = 1 := by omega
      rcases this with e | e <;> simp [e, encX]
    rw [hr]
    have e2 : (flatX (List.replicate n (0, 0))).toArray.toList[k] = (flatX (List.replicate n (0, 0)))[k] := by simp
    rw [e2]
    have e3 : (List.replicate n ((0, 0) : Nat × Nat))[k / 2]'(by simp; omega) = (0, 0) := by simp
    rw [e3] at f
    rw [List.getElem?_eq_getElem (by simp [encX]; omega)] at f
    injection f with f
    exact f.symm
theorem rowX_new {w : World} {b g n : Nat} (h : w.heap[g]? = some (.cells (flatX (List.replicate n (0, 0))).toArray 58 (0, 0))) (hb : b ≤ g) (hn : n ≤ 16777216) : RowX w b (.slice (some ⟨g, 0, none⟩) n n) (List.replicate n (0, 0)) := by
  refine ⟨flatX_length _, .inr ⟨g, n, _, by simp, hb, h, by simp, by unfold maxLen; omega, by simp [flatX_length], ?_⟩⟩
  rw [List.take_of_length_le (by simp [flatX_length])]
set_option maxRecDepth 20000 in
set_option maxHeartbeats 4000000 in
theorem sourcesC (l : List Ru) (v : Value) (w : World) (hs : SrcU w v l) (hl : l.length ≤ 64) (hb : ∀ R ∈ l, BdR R ∧ okR R = true) :
    Calls Tryz.prog 73 #[v] w fun e w' => ∃ v' : Value, e = .returned v' ∧ RowX w' w.heap.size v' (l.map sr) ∧ Below w.heap.size w w' := by
  have HS : Hid (SrcU w v l) := hs
  have HBd : Hid (∀ R ∈ l, BdR R ∧ okR R = true) := hb
  obtain ⟨ad, cap, rfl, hcp, _⟩ := hs
  obtain ⟨n, hn⟩ : ∃ n, n = l.length := ⟨_, rfl⟩
  rw [← hn] at HS hl ⊢
  have Hn : Hid (n = l.length) := hn
  clear hn hb hcp
  obtain ⟨i0, hi, hz0, hz1, hz2⟩ := info_parts infoX
  have hmk := fun W => run_make (P := Tryz.prog) W 139 58 i0 _ Tryz.underlying139 hi hz0 .i64 .i64 (n : Int) (n : Int) (by omega) (Int.le_refl _) (by rw [hz2]; omega) (by omega)
  simp only [hz1, Int.toNat_natCast, Value.cells, made_X _ _ rfl] at hmk
  obtain ⟨F, hF⟩ : ∃ F, F = (flatX (List.replicate n (0, 0))).toArray := ⟨_, rfl⟩
  rw [← hF] at hmk
  have HR0 : Hid (RowX (w.alloc (.cells F 58)) w.heap.size (.slice (some ⟨w.heap.size, 0, none⟩) n n) (uptoX (fun k => sr (l.getD k ruZ0)) 0 n)) := by
    rw [uptoX_zero]; exact rowX_new (by rw [← hF]; exact blk_new w _) (Nat.le_refl _) (by omega)
  have HB0 : Hid (Below w.heap.size w (w.alloc (.cells F 58))) := (Below.refl _ _).alloc (Nat.le_refl _) _
  clear hi hz0 hz1 hz2 hF
  have hmk2 := hmk w
  clear hmk
  go_enter Tryz.func73, Tryz.ntmps73
  go_wp2_with (fail)
  generalize w.alloc (.cells F 58) = w1 at *
  clear hmk2
  go_loopw [11] (fun vi wr => ∃ k : Nat, k ≤ n ∧ vi = .int .i64 (k : Int) ∧ Hid (RowX wr w.heap.size (.slice (some ⟨w.heap.size, 0, none⟩) n n) (uptoX (fun k => sr (l.getD k ruZ0)) k n)) ∧ Hid (Below w.heap.size w wr)) (fun vi _ => n - (intOf vi).toNat)
  case atStart => exact ⟨0, Nat.zero_le _, rfl, HR0.out, HB0.out⟩
  case round =>
    obtain ⟨k, hk, rfl, HR, HB⟩ := hrel
    clear HR0 HB0
    by_cases hlt : k < n
    · have hlt' : k < l.length := by rw [← Hn.out]; exact hlt
      have hlti : (k : Int) < (n : Int) := by omega
      obtain ⟨g, off, rfl, hrg⟩ := (rngU HS.out).2 wr HB.out k hlt'
      have hbd := HBd.out _ (List.getElem_mem hlt')
      obtain ⟨p, hp⟩ : ∃ p, p = l[k] := ⟨_, rfl⟩
      rw [← hp] at hrg hbd
      have hgd : l.getD k ruZ0 = p := by rw [hp]; simp [hlt']
      have hq := (okR_sr hbd.2 hbd.1).2.1
      have x0 : wr.cell? ⟨g, off + k * 12, none⟩ = some (.int .i64 p.i) := hrg 0 _ rfl
      have x1 : wr.cell? ⟨g, off + k * 12 + 1, none⟩ = some (.int .u32 (p.s : Int)) := hrg 1 _ rfl
      have x2 : wr.cell? ⟨g, off + k * 12 + 2, none⟩ = some (.int .i64 p.sl) := hrg 2 _ rfl
      have x3 : wr.cell? ⟨g, off + k * 12 + 3, none⟩ = some (.int .u32 (p.d : Int)) := hrg 3 _ rfl
      have x4 : wr.cell? ⟨g, off + k * 12 + 4, none⟩ = some (.int .i64 p.dl) := hrg 4 _ rfl
      have x5 : wr.cell? ⟨g, off + k * 12 + 5, none⟩ = some (.int .u16 (p.p.1 : Int)) := hrg 5 _ rfl
      have x6 : wr.cell? ⟨g, off + k * 12 + 6, none⟩ = some (.int .u16 (p.p.2 : Int)) := hrg 6 _ rfl
      have x7 : wr.cell? ⟨g, off + k * 12 + 7, none⟩ = some (.int .u16 (p.q.1 : Int)) := hrg 7 _ rfl
      have x8 : wr.cell? ⟨g, off + k * 12 + 8, none⟩ = some (.int .u16 (p.q.2 : Int)) := hrg 8 _ rfl
      have x9 : wr.cell? ⟨g, off + k * 12 + 9, none⟩ = some (.int .u8 (p.m.1 : Int)) := hrg 9 _ rfl
      have x10 : wr.cell? ⟨g, off + k * 12 + 10, none⟩ = some (.int .u8 (p.m.2 : Int)) := hrg 10 _ rfl
      have x11 : wr.cell? ⟨g, off + k * 12 + 11, none⟩ = some (.int .i64 p.act) := hrg 11 _ rfl
      obtain ⟨W1, hW1⟩ : ∃ W1, W1 = wr.alloc (.cells #[.int .i64 p.i, .int .u32 (p.s : Int), .int .i64 p.sl, .int .u32 (p.d : Int), .int .i64 p.dl, .int .u16 (p.p.1 : Int), .int .u16 (p.p.2 : Int), .int .u16 (p.q.1 : Int), .int .u16 (p.q.2 : Int), .int .u8 (p.m.1 : Int), .int .u8 (p.m.2 : Int), .int .i64 p.act] 64) := ⟨_, rfl⟩
      have hbW : Below wr.heap.size wr W1 := by rw [hW1]; exact (Below.refl _ _).alloc (Nat.le_refl _) _
      have HR1 : Hid (RowX W1 w.heap.size (.slice (some ⟨w.heap.size, 0, none⟩) n n) (uptoX (fun k => sr (l.getD k ruZ0)) k n)) := HR.out.on hbW
      have HB1 : Hid (Below w.heap.size w W1) := HB.out.trans (hbW.mono HB.out.size)
      have y1 : W1.cell? ⟨wr.heap.size, 1, none⟩ = some (.int .u32 (p.s : Int)) := by rw [hW1]; exact blk_cell (blk_new wr _) rfl
      have y2 : W1.cell? ⟨wr.heap.size, 2, none⟩ = some (.int .i64 p.sl) := by rw [hW1]; exact blk_cell (blk_new wr _) rfl
      have Hset : Hid ((uptoX (fun k => sr (l.getD k ruZ0)) k n).take k ++ [sr p] ++ (uptoX (fun k => sr (l.getD k ruZ0)) k n).drop (k + [sr p].length) = uptoX (fun k => sr (l.getD k ruZ0)) (k + 1) n) := by
        have := uptoX_set (fun k => sr (l.getD k ruZ0)) hlt
        simp only [hgd] at this
        exact this
      have hv : Value.agg #[.int .u32 (p.s : Int), .int .i64 p.sl] = .agg #[.int .u32 ((sr p).1 : Int), .int .i64 ((sr p).2 : Int)] := by rw [← hq]; rfl
      have Hv : Hid _ := hv
      clear hrg hbd hp hgd hq hbW HR HB hv
      subst hW1
      go_wp2_with (refine wpList_storeX rfl (.tmp 20) (.tmp 19) rfl w.heap.size w.heap.size n n _ HR1.out k hlt (sr p) rfl Hv.out ?_; intro w3 hr3 hg3)
      have HR3 : Hid (RowX w3 w.heap.size (.slice (some ⟨w.heap.size, 0, none⟩) n n) (uptoX (fun k => sr (l.getD k ruZ0)) (k + 1) n)) := by rw [Hset.out] at hr3; exact hr3
      have HB3 : Hid (Below w.heap.size w w3) := HB1.out.grown hg3 HB1.out.size (fun q hq => by injection hq with e; omega)
      clear hr3 hg3
      go_roundw
      case rel => exact ⟨k + 1, by omega, by go_num, HR3.out, HB3.out⟩
      case measure => simp [intOf]; omega
    · obtain rfl : k = n := by omega
      have hni : ¬ (k : Int) < (k : Int) := by omega
      have HR' : Hid (RowX wr w.heap.size (.slice (some ⟨w.heap.size, 0, none⟩) k k) (l.map sr)) := by
        have e : uptoX (fun j => sr (l.getD j ruZ0)) k k = l.map sr := by rw [Hn.out]; exact uptoX_all (fun j hj => by simp [hj])
        rw [← e]; exact HR.out
      clear HR
      go_wp2
      go_ret
      exact ⟨_, rfl, HR'.out, HB.out⟩
end Go.Proofs.YtgidohnikggjfaaGreat
/-
  nest's targets, held, Grid and Prune. Written by tools/mkNsT.py.
-/
namespace Go.Proofs.YtgidohnikggjfaaGreat
open Go.RowKit
set_option linter.unusedVariables false
set_option linter.unusedSimpArgs false


def pr (R : Ru) : (Nat × Nat) × (Nat × Nat) := (sr R, ds R)
theorem tgs_app (l : List ((Nat × Nat) × (Nat × Nat))) (r : (Nat × Nat) × (Nat × Nat)) (s : Nat × Nat) : tgs witX (l ++ [r]) s = if witX s r.1 then tgs witX l s ++ [r.2] else tgs witX l s := by
  unfold tgs
  rw [List.filter_append, List.map_append]
  cases h : witX s r.1 <;> simp [h]
theorem srcX_at {w : World} {ad : Option Addr} {n cap : Nat} {l : List (Nat × Nat)} (h : SrcX w (.slice ad n cap) l) : n = l.length ∧ ∀ {W : World}, Below w.heap.size w W → ∀ k (hk : k < l.length), ∃ g off, ad = some ⟨g, off, none⟩ ∧ W.cell? ⟨g, off + k * 2, none⟩ = some (.int .u32 ((l[k]'hk).1 : Int)) ∧ W.cell? ⟨g, off + k * 2 + 1, none⟩ = some (.int .i64 ((l[k]'hk).2 : Int)) := by
  obtain ⟨ad', c, e, _, h2⟩ := h
  cases e
  refine ⟨rfl, fun {W} hb k hk => ?_⟩
  obtain ⟨g, off, rfl, h3⟩ := h2 (by omega)
  have h0 := h3 k hk 0 (by omega)
  have h1 := h3 k hk 1 (by omega)
  rw [Nat.add_zero] at h0
  rw [← Nat.add_assoc] at h1
  exact ⟨g, off, rfl, cell_on1 hb h0, cell_on1 hb h1⟩
theorem sum_step {f : Nat × Nat → Nat} {u : List (Nat × Nat)} {k : Nat} (hk : k < u.length) : sumF f (u.take (k + 1)) = sumF f (u.take k) + f u[k] := by
  rw [take_at hk, sumF_app]; simp [sumF]
theorem cnt_step {q : Nat × Nat → Bool} {l : List (Nat × Nat)} {k : Nat} (hk : k < l.length) : (l.take (k + 1)).countP q = (l.take k).countP q + if q l[k] then 1 else 0 := by
  rw [take_at hk, List.countP_append, List.countP_singleton]
set_option maxRecDepth 20000 in
set_option maxHeartbeats 4000000 in
theorem heldC (l : List (Nat × Nat)) (v : Value) (w : World) (hs : SrcX w v l) (hl : l.length ≤ 64) (hb : ∀ x ∈ l, x.1 < 4294967296) :
    Calls Tryz.prog 72 #[v] w fun e w' => e = .returned (.int .i64 (hel witX l : Nat)) ∧ Below w.heap.size w w' := by
  have hU := unlX l v w hs (by omega)
  have HS : Hid (SrcX w v l) := hs
  have HBd : Hid (∀ x ∈ l, x.1 < 4294967296) := hb
  obtain ⟨ad, cap, rfl, hcp, _⟩ := hs
  obtain ⟨n, hn⟩ : ∃ n, n = l.length := ⟨_, rfl⟩
  rw [← hn] at HS hl hU ⊢
  have Hn : Hid (n = l.length) := hn
  clear hn hb hcp
  obtain ⟨A, hA⟩ : ∃ A, A = hel witX l := ⟨_, rfl⟩
  rw [← hA]
  have HA : Hid (A = hel witX l) := hA
  clear hA
  go_enter Tryz.func72, Tryz.ntmps72
  go_wp2_with (fail)
  refine hU.mono ?_
  rintro e w1 ⟨v3, u, rfl, hm, hp, hr1, hb1⟩
  have hnd : u.Nodup := List.Pairwise.imp (S := fun a b => a ≠ b) (fun {a b} hab e => by subst e; unfold ltX at hab; omega) hp
  have hul : u.length ≤ 64 := by
    have : u.length ≤ l.length := List.Nodup.length_le_of_subset hnd (fun x hx => (hm x).1 hx)
    have := Hn.out; omega
  have HE : Hid (sumF (fun p => l.countP (witX p)) u = A) := by
    show sumF (fun p => l.countP (witX p)) u = A
    rw [HA.out]; exact hel_of hnd hm
  have HM : Hid (∀ x, x ∈ u ↔ x ∈ l) := hm
  have HR1 : Hid (SrcX w1 v3 u) := hr1.src
  have HB1 : Hid (Below w.heap.size w w1) := hb1
  obtain ⟨au, cu, rfl, _, _⟩ := hr1.form
  obtain ⟨m, hmm⟩ : ∃ m, m = u.length := ⟨_, rfl⟩
  rw [← hmm] at HR1 hul ⊢
  have Hm : Hid (m = u.length) := hmm
  clear hU hm hp hr1 hb1 hnd hmm HA
  go_wp2_with (fail)
  go_loopw [3, 11] (fun vs vi wr => ∃ i : Nat, i ≤ m ∧ vs = .int .i64 ((sumF (fun p => l.countP (witX p)) (u.take i) : Nat) : Int) ∧ vi = .int .i64 (i : Int) ∧ Hid (Below w1.heap.size w1 wr)) (fun _ vi _ => m - (intOf vi).toNat)
  case atStart => exact ⟨0, Nat.zero_le _, rfl, rfl, Below.refl _ _⟩
  case round =>
    obtain ⟨i, hi, rfl, rfl, HB⟩ := hrel
    by_cases hlt : i < m
    · have hlt' : i < u.length := by rw [← Hm.out]; exact hlt
      have hlti : (i : Int) < (m : Int) := by omega
      obtain ⟨g, off, rfl, c0, c1⟩ := (srcX_at HR1.out).2 HB.out i hlt'
      have hst := sum_step (f := fun p => l.countP (witX p)) hlt'
      have hbo := sumF_bound (f := fun p => l.countP (witX p)) (l := u.take i) (k := 64) (fun x _ => Nat.le_trans List.countP_le_length (by rw [← Hn.out]; exact hl))
      have hbo2 : sumF (fun p => l.countP (witX p)) (u.take i) ≤ 64 * 64 := Nat.le_trans hbo (by rw [List.length_take]; exact Nat.mul_le_mul_right _ (by omega))
      obtain ⟨p, hp⟩ : ∃ p, p = u[i] := ⟨_, rfl⟩
      rw [← hp] at c0 c1 hst
      have hpl : p.1 < 4294967296 := HBd.out p ((HM.out p).1 (by rw [hp]; exact List.getElem_mem _))
      obtain ⟨W1, hW1⟩ : ∃ W1, W1 = wr.alloc (.cells #[.int .u32 (p.1 : Int), .int .i64 (p.2 : Int)] 58) := ⟨_, rfl⟩
      have hbW : Below wr.heap.size wr W1 := by rw [hW1]; exact (Below.refl _ _).alloc (Nat.le_refl _) _
      have HBW : Hid (Below w1.heap.size w1 W1) := HB.out.trans (hbW.mono HB.out.size)
      have Hy0 : Hid (W1.cell? ⟨wr.heap.size, 0, none⟩ = some (.int .u32 (p.1 : Int))) := by rw [hW1]; exact blk_cell (blk_new wr _) rfl
      have Hy1 : Hid (W1.cell? ⟨wr.heap.size, 1, none⟩ = some (.int .i64 (p.2 : Int))) := by rw [hW1]; exact blk_cell (blk_new wr _) rfl
      have HBwW : Hid (Below w.heap.size w W1) := bel_of HB1.out HBW.out HB1.out.size
      have Hst : Hid _ := hst
      have hW1s : wr.alloc (.cells #[.int .u32 (p.1 : Int), .int .i64 (p.2 : Int)] 58) = W1 := hW1.symm
      clear hst hbo hp hbW hW1 HB
      generalize sumF (fun p => l.countP (witX p)) (u.take i) = S0 at *
      go_wp2_with (fail)
      try simp only [hW1s]
      clear c0 c1 hW1s
      generalize wr.heap.size = BB at *
      go_loopw [3, 17] (fun vs vj wr => ∃ j : Nat, j ≤ n ∧ vs = .int .i64 (((S0 + (l.take j).countP (witX p)) : Nat) : Int) ∧ vj = .int .i64 (j : Int) ∧ Hid (Below W1.heap.size W1 wr)) (fun _ vj _ => n - (intOf vj).toNat)
      case atStart => exact ⟨0, Nat.zero_le _, by simp, rfl, Below.refl _ _⟩
      case round =>
        obtain ⟨j, hj, rfl, rfl, HBq⟩ := hrel
        by_cases hltj : j < n
        · have hltj' : j < l.length := by rw [← Hn.out]; exact hltj
          have hltji : (j : Int) < (n : Int) := by omega
          have HBwq : Hid (Below w.heap.size w wr) := bel_of HBwW.out HBq.out HBwW.out.size
          obtain ⟨g2, off2, rfl, c0, c1⟩ := (srcX_at HS.out).2 HBwq.out j hltj'
          have hct := cnt_step (q := witX p) hltj'
          have hcb : (l.take j).countP (witX p) ≤ 64 := Nat.le_trans List.countP_le_length (by rw [List.length_take]; omega)
          obtain ⟨q, hq⟩ : ∃ q, q = l[j] := ⟨_, rfl⟩
          rw [← hq] at c0 c1 hct
          have hql : q.1 < 4294967296 := HBd.out q (by rw [hq]; exact List.getElem_mem _)
          have hW := fun W => withinX p q W hpl hql
          obtain ⟨W2, hW2⟩ : ∃ W2, W2 = wr.alloc (.cells #[.int .u32 (q.1 : Int), .int .i64 (q.2 : Int)] 58) := ⟨_, rfl⟩
          have hbW2 : Below wr.heap.size wr W2 := by rw [hW2]; exact (Below.refl _ _).alloc (Nat.le_refl _) _
          have HB2 : Hid (Below W1.heap.size W1 W2) := HBq.out.trans (hbW2.mono HBq.out.size)
          have y0 := cell_on1 HB2.out Hy0.out
          have y1 := cell_on1 HB2.out Hy1.out
          have q0 : W2.cell? ⟨wr.heap.size, 0, none⟩ = some (.int .u32 (q.1 : Int)) := by rw [hW2]; exact blk_cell (blk_new wr _) rfl
          have q1 : W2.cell? ⟨wr.heap.size, 1, none⟩ = some (.int .i64 (q.2 : Int)) := by rw [hW2]; exact blk_cell (blk_new wr _) rfl
          have Hct : Hid _ := hct
          clear hct hq hbW2 HBq HBwq
          generalize (l.take j).countP (witX p) = C at *
          cases hwi : witX p q with
          | false =>
            rw [hwi] at hW
            have Hct2 : Hid ((l.take (j + 1)).countP (witX p) = C) := show (l.take (j + 1)).countP (witX p) = C by have := Hct.out; rw [hwi] at this; simpa using this
            clear Hct hwi
            subst hW2
            go_wp2_with (go_at_call 91; refine (hW _).mono ?_; rintro e w4 ⟨rfl, hb4⟩)
            have HB4 : Hid (Below W1.heap.size W1 w4) := bel_of HB2.out (by assumption) HB2.out.size
            go_roundw
            case rel => exact ⟨j + 1, by omega, (by rw [Hct2.out]; first | rfl | simp), by go_num, HB4.out⟩
            case measure => simp [intOf]; omega
          | true =>
            rw [hwi] at hW
            have Hct2 : Hid ((l.take (j + 1)).countP (witX p) = C + 1) := show (l.take (j + 1)).countP (witX p) = C + 1 by have := Hct.out; rw [hwi] at this; simpa using this
            clear Hct hwi
            subst hW2
            go_wp2_with (go_at_call 91; refine (hW _).mono ?_; rintro e w4 ⟨rfl, hb4⟩)
            have HB4 : Hid (Below W1.heap.size W1 w4) := bel_of HB2.out (by assumption) HB2.out.size
            go_roundw
            case rel => exact ⟨j + 1, by omega, by rw [Hct2.out]; go_num, by go_num, HB4.out⟩
            case measure => simp [intOf]; omega
        · obtain rfl : j = n := by omega
          have hnj : ¬ (j : Int) < (j : Int) := by omega
          have HB5 : Hid (Below w1.heap.size w1 wr) := bel_of HBW.out HBq.out HBW.out.size
          have Hfin : Hid (sumF (fun p => l.countP (witX p)) (u.take (i + 1)) = S0 + (l.take j).countP (witX p)) := show _ = S0 + (l.take j).countP (witX p) by rw [Hst.out, Hn.out, List.take_length]
          generalize (l.take j).countP (witX p) = C at *
          go_wp2
          go_roundw
          case rel => exact ⟨i + 1, by omega, (by rw [Hfin.out]), by go_num, HB5.out⟩
          case measure => simp [intOf]; omega
    · obtain rfl : i = m := by omega
      have hni : ¬ (i : Int) < (i : Int) := by omega
      have et : u.take i = u := by rw [Hm.out]; exact List.take_length
      rw [et]
      go_wp2
      go_ret
      exact ⟨ret_int (by rw [HE.out]), bel_of HB1.out HB.out HB1.out.size⟩
end Go.Proofs.YtgidohnikggjfaaGreat
/-
  nest's Prune (out of NsV).
-/
namespace Go.Proofs.YtgidohnikggjfaaGreat
open Go.RowKit
set_option linter.unusedVariables false
set_option linter.unusedSimpArgs false


def grdL (l : List Ru) : Nat := if setE l 64 = 0 then grdN witX (l.map pr) else 0
def prnL (l : List Ru) : Nat := if setE l 64 = 0 then prnN witX (l.map pr) else 0
theorem map_sr (l : List Ru) : (l.map pr).map (·.1) = l.map sr := by simp [pr]
end Go.Proofs.YtgidohnikggjfaaGreat
/-
  nest's Grid (out of NsV).
-/
namespace Go.Proofs.YtgidohnikggjfaaGreat
open Go.RowKit
set_option linter.unusedVariables false
set_option linter.unusedSimpArgs false

set_option maxHeartbeats 2000000 in
theorem gridC (l : List Ru) (v : Value) (w : World) (hs : SrcU w v l) (hl : l.length ≤ 16777216) (hb : ∀ R ∈ l, BdR R) :
    Calls Tryz.prog 52 #[v] w fun e w' => e = .returned (.tuple #[.int .i64 (grdL l : Nat), .int .i64 (setE l 64)]) ∧ Below w.heap.size w w' := by
  have hC := checkLC l v w hs hl hb
  have HS : Hid (SrcU w v l) := hs
  have HOk : Hid (setE l 64 = 0 → l.length ≤ 64 ∧ ∀ R ∈ l, BdR R ∧ okR R = true) := fun h0 => by
    have o := setE_ok h0
    refine ⟨?_, fun R hR => ⟨hb R hR, ?_⟩⟩
    · rcases o.few with e | e
      · rw [e]; simp
      · omega
    · obtain ⟨k, hk, rfl⟩ := List.mem_iff_getElem.1 hR
      exact o.may k hk
  clear hs hb
  by_cases h0 : setE l 64 = 0
  · obtain ⟨o1, o2⟩ := HOk.out h0
    have HG : Hid (grdL l = hel witX (l.map sr)) := by
      show grdL l = _
      unfold grdL grdN; rw [if_pos h0, map_sr]
    have HX : Hid (∀ x ∈ l.map sr, x.1 < 4294967296) := fun x hx => by
      obtain ⟨R, hR, rfl⟩ := List.mem_map.1 hx
      exact (o2 R hR).1.1
    have HL : Hid ((l.map sr).length ≤ 64) := by show (l.map sr).length ≤ 64; rw [List.length_map]; exact o1
    generalize grdL l = G at *
    rw [h0] at hC ⊢
    go_enter Tryz.func52, Tryz.ntmps52
    go_wp2_with (fail)
    refine hC.mono ?_
    rintro e w1 ⟨rfl, hb1⟩
    have HB1 : Hid (Below w.heap.size w w1) := hb1
    have hS := sourcesC l v w1 (HS.out.keep hb1) o1 o2
    clear hC hb1 o1 o2 h0
    go_wp2_with (go_at_call 73; fail)
    refine hS.mono ?_
    rintro e w2 ⟨v2, rfl, hr2, hb2⟩
    have hH := heldC (l.map sr) v2 w2 hr2.src HL.out HX.out
    rw [← HG.out] at hH
    have HB2 : Hid (Below w.heap.size w w2) := bel_of HB1.out hb2 HB1.out.size
    clear hr2 hb2 hS
    go_wp2_with (go_at_call 72; fail)
    refine hH.mono ?_
    rintro e w3 ⟨rfl, hb3⟩
    have HB3 : Hid (Below w.heap.size w w3) := bel_of HB2.out hb3 HB2.out.size
    clear hb3 hH
    go_wp2
    go_ret2
    exact ⟨rfl, HB3.out⟩
  · have hG : grdL l = 0 := if_neg h0
    rw [hG]
    have h0' : (setE l 64 != 0) = true := by simpa using h0
    clear HOk hG
    generalize setE l 64 = E at *
    go_enter Tryz.func52, Tryz.ntmps52
    go_wp2_with (fail)
    refine hC.mono ?_
    rintro e w1 ⟨rfl, hb1⟩
    have HB1 : Hid (Below w.heap.size w w1) := hb1
    clear hC hb1
    go_wp2
    go_ret2
    exact ⟨rfl, HB1.out⟩
end Go.Proofs.YtgidohnikggjfaaGreat
/-
  The mathematics of prune's look-up: along an address to the longest prefix, first of sources, then of destinations; the list there is that of all rules that have both addresses.
-/
namespace Go.Proofs.YtgidohnikggjfaaGreat
set_option linter.unusedVariables false
set_option linter.unusedSimpArgs false

/-- Of the first k prefixes of an address the longest that bears something bears v. -/
def Lng (N : List Pn) (G : List Lab) (r a k v : Nat) : Prop :=
  (v = 0 ∧ ∀ j, j < k → ∀ u, ¬ Bs N G r (pth a j) u) ∨ ∃ j, j < k ∧ Bs N G r (pth a j) v ∧ ∀ j', j < j' → j' < k → ∀ u, ¬ Bs N G r (pth a j') u
theorem Lng.zero (N : List Pn) (G : List Lab) (r a : Nat) : Lng N G r a 0 0 := .inl ⟨rfl, fun j hj => by omega⟩
theorem Lng.no {N : List Pn} {G : List Lab} {r a k v : Nat} (h : Lng N G r a k v) (hn : ∀ u, ¬ Bs N G r (pth a k) u) : Lng N G r a (k + 1) v := by
  rcases h with ⟨e, h⟩ | ⟨j, hj, hb, h⟩
  · refine .inl ⟨e, fun j hj u => ?_⟩
    by_cases e : j = k
    · rw [e]; exact hn u
    · exact h j (by omega) u
  · refine .inr ⟨j, by omega, hb, fun j' h1 h2 u => ?_⟩
    by_cases e : j' = k
    · rw [e]; exact hn u
    · exact h j' h1 (by omega) u
theorem Lng.step {N : List Pn} {G : List Lab} (hw : Wf N G) {r a k v t : Nat} {x : Pn} (h : Lng N G r a k v) (hg : G[t]? = some (r, pth a k)) (hx : N[t]? = some x) : Lng N G r a (k + 1) (if x.c = 0 then v else x.c) := by
  by_cases hc : x.c = 0
  · rw [if_pos hc]
    exact h.no fun u hb => by have := (Bs.at hw hg hx).1 hb; omega
  · rw [if_neg hc]
    exact .inr ⟨k, by omega, (Bs.at hw hg hx).2 ⟨rfl, hc⟩, fun j' h1 h2 => by omega⟩
theorem no_longer {N : List Pn} {G : List Lab} (hw : Wf N G) {r a k : Nat} (h : ∀ i : Nat, G[i]? ≠ some (r, pth a k)) : ∀ d : Nat, ∀ i : Nat, G[i]? ≠ some (r, pth a (k + d))
  | 0 => h
  | d + 1 => fun i hi => by
    rw [← Nat.add_assoc, pth_succ] at hi
    obtain ⟨j, hj⟩ := hw.pre i r _ _ hi
    exact no_longer hw h d j hj
theorem Lng.stop {N : List Pn} {G : List Lab} (hw : Wf N G) {r a k v : Nat} (h : Lng N G r a k v) (hk : k ≤ 33) (hn : ∀ i : Nat, G[i]? ≠ some (r, pth a k)) : Lng N G r a 33 v := by
  have key : ∀ d, Lng N G r a (k + d) v := fun d => by
    induction d with
    | zero => exact h
    | succ d ih => exact ih.no fun u ⟨i, x, hi, _⟩ => no_longer hw hn d i hi
  have := key (33 - k)
  rwa [show k + (33 - k) = 33 by omega] at this
/-- At a node without a kid on the way. -/
theorem no_kid {N : List Pn} {G : List Lab} (hw : Wf N G) {r a k t : Nat} {x : Pn} (hg : G[t]? = some (r, pth a k)) (hx : N[t]? = some x) (hk : k < 32 → x.kid (Pf.tb a k) = 0) : ∀ i : Nat, G[i]? ≠ some (r, pth a (k + 1)) := by
  intro i hi
  by_cases h : k < 32
  · rw [pth_succ] at hi
    exact hw.no t x r _ _ hx hg (Pf.tb_lt a k) (hk h) i hi
  · have := hw.short i r _ hi
    rw [pth_len] at this; omega
theorem last_kid {N : List Pn} {G : List Lab} (hw : Wf N G) {r a k t u : Nat} {x : Pn} (hg : G[t]? = some (r, pth a k)) (hx : N[t]? = some x) (hu : u < 2) (h : ¬ k < 32) : x.kid u = 0 := by
  apply Classical.byContradiction
  intro e
  have := hw.short _ r _ (hw.up t x r _ u hx hg hu e)
  rw [List.length_append, pth_len] at this
  simp at this; omega
/-- Does a prefix hold an address? -/
def hasX (x : Nat × Nat) (a : Nat) : Bool := decide (Pf.ct a x.2 = x.1)
theorem hasX_pp {x : Nat × Nat} {a : Nat} (hx : Okx x) (ha : a < 4294967296) : hasX x a = true ↔ pp x = pth a x.2 := by
  unfold hasX pp
  rw [decide_eq_true_iff, pth_ct hx.1 ha hx.2.1, hx.2.2]
  exact ⟨fun e => e.symm, fun e => e.symm⟩
theorem lng_find {N : List Pn} {G : List Lab} {r a v : Nat} {D : List (Nat × Nat)} {P : Nat × Nat → Nat → Prop} (hs : ∀ q v, Bs N G r q v → ∃ d ∈ D, q = pp d ∧ P d v) (hf : ∀ d ∈ D, ∃ v, Bs N G r (pp d) v) (hD : ∀ d ∈ D, Okx d) (ha : a < 4294967296) (L : Lng N G r a 33 v) :
    (v = 0 ∧ ∀ d ∈ D, hasX d a = false) ∨ (v ≠ 0 ∧ ∃ d ∈ D, hasX d a = true ∧ P d v ∧ ∀ t ∈ D, hasX t a = true → t.2 ≤ d.2) := by
  rcases L with ⟨e, h⟩ | ⟨j, hj, hb, h⟩
  · refine .inl ⟨e, fun d hd => ?_⟩
    rw [Bool.eq_false_iff]
    intro hh
    obtain ⟨u, hu⟩ := hf d hd
    rw [(hasX_pp (hD d hd) ha).1 hh] at hu
    exact h d.2 (by have := (hD d hd).2.1; omega) u hu
  · refine .inr ⟨?_, ?_⟩
    · obtain ⟨_, _, _, _, _, e⟩ := hb; exact e
    · obtain ⟨d, hd, e, hp⟩ := hs _ _ hb
      have hjd : j = d.2 := by have := congrArg List.length e; simpa [pp, pth_len] using this
      subst hjd
      refine ⟨d, hd, (hasX_pp (hD d hd) ha).2 e.symm, hp, fun t ht hh => ?_⟩
      apply Classical.byContradiction
      intro hlt
      obtain ⟨u, hu⟩ := hf t ht
      rw [(hasX_pp (hD t ht) ha).1 hh] at hu
      exact h t.2 (by omega) (by have := (hD t ht).2.1; omega) u hu
theorem okx_of {x : Nat × Nat} (h : OkX x) : Okx x := by
  obtain ⟨m, e, h1, h2⟩ := Pf.chk_ok h.2
  have : m = x.2 := by omega
  subst this
  exact ⟨h.1, h1, Pf.ct_self _ _ h2⟩
theorem witX_iff {s t : Nat × Nat} (hs : OkX s) (ht : OkX t) : witX s t = true ↔ t.2 ≤ s.2 ∧ Pf.ct s.1 t.2 = t.1 := by
  unfold witX Pf.witB Pf.hasB
  rw [decide_eq_true_iff, decide_eq_true_iff]
  have h1 := hs.2; have h2 := ht.2
  simp only [h1, h2, true_and, Int.toNat_natCast]
  omega
theorem wit_of {s t : Nat × Nat} {a : Nat} (hs : OkX s) (ht : OkX t) (h1 : hasX s a = true) (h2 : hasX t a = true) (h : t.2 ≤ s.2) : witX s t = true := by
  unfold hasX at h1 h2
  rw [decide_eq_true_iff] at h1 h2
  rw [witX_iff hs ht]
  exact ⟨h, by rw [← h1, Pf.ct_ct _ _ _ h]; exact h2⟩
theorem has_of {s t : Nat × Nat} {a : Nat} (hs : OkX s) (ht : OkX t) (h1 : hasX s a = true) (h : witX s t = true) : hasX t a = true := by
  rw [witX_iff hs ht] at h
  unfold hasX at h1 ⊢
  rw [decide_eq_true_iff] at h1 ⊢
  rw [← h.2, ← h1, Pf.ct_ct _ _ _ h.1]
theorem hasB_X {R : Ru} {a : Nat} (hx : OkX (sr R)) (he : R.sl = ((sr R).2 : Int)) : Pf.hasB R.s R.sl a = hasX (sr R) a := by
  rw [he]
  have h := Pf.hasB_in (x := a) hx.2
  exact h
theorem hasB_Y {R : Ru} {a : Nat} (hx : OkX (ds R)) (he : R.dl = ((ds R).2 : Int)) : Pf.hasB R.d R.dl a = hasX (ds R) a := by
  rw [he]
  have h := Pf.hasB_in (x := a) hx.2
  exact h

/-- The rule at a place. -/
def ruAt (l : List Ru) (i : Nat) : Ru := l.getD i ruZ0
theorem ruAt_at {l : List Ru} {i : Nat} (h : i < l.length) : ruAt l i = l[i] := by simp [ruAt, h]
/-- Places of rules whose source holds s; those of them whose destination holds d; their destinations. -/
def holdL (l : List Ru) (s : Nat × Nat) : List Nat := (List.range l.length).filter fun i => witX s (sr (ruAt l i))
def amgL (l : List Ru) (ps : List Nat) (d : Nat × Nat) : List Nat := ps.filter fun i => witX d (ds (ruAt l i))
def dsL (l : List Ru) (ps : List Nat) : List (Nat × Nat) := ps.map fun i => ds (ruAt l i)
def tgL (l : List Ru) (s : Nat × Nat) : List (Nat × Nat) := dsL l (holdL l s)
def lsL (l : List Ru) (s d : Nat × Nat) : List Nat := amgL l (holdL l s) d
/-- Places of rules that have both addresses. -/
def prsL (l : List Ru) (h : Hd) : List Nat := (List.range l.length).filter fun i => hasX (sr (ruAt l i)) h.s && hasX (ds (ruAt l i)) h.d
/-- All of them may be. -/
def OkA (l : List Ru) : Prop := ∀ R ∈ l, BdR R ∧ okR R = true
theorem OkA.at {l : List Ru} (o : OkA l) {i : Nat} (h : i < l.length) : OkX (sr (ruAt l i)) ∧ OkX (ds (ruAt l i)) := by
  rw [ruAt_at h]
  obtain ⟨a, b⟩ := o _ (List.getElem_mem h)
  have := okR_sr b a
  exact ⟨this.1, this.2.2.1⟩
theorem OkA.src {l : List Ru} (o : OkA l) {s : Nat × Nat} (h : s ∈ l.map sr) : OkX s := by
  obtain ⟨R, hR, rfl⟩ := List.mem_map.1 h
  obtain ⟨a, b⟩ := o R hR
  exact (okR_sr b a).1
theorem holdL_lt {l : List Ru} {s : Nat × Nat} {i : Nat} (h : i ∈ holdL l s) : i < l.length := List.mem_range.1 (List.mem_filter.1 h).1
theorem OkA.dst {l : List Ru} (o : OkA l) {s d : Nat × Nat} (h : d ∈ tgL l s) : OkX d := by
  obtain ⟨i, hi, rfl⟩ := List.mem_map.1 h
  exact (o.at (holdL_lt hi)).2
theorem src_mem {l : List Ru} {i : Nat} (h : i < l.length) : sr (ruAt l i) ∈ l.map sr := by
  rw [ruAt_at h]; exact List.mem_map.2 ⟨_, List.getElem_mem h, rfl⟩
theorem filter_none {α : Type} {l : List α} {p : α → Bool} (h : ∀ x ∈ l, p x = false) : l.filter p = [] := by
  rw [List.filter_eq_nil_iff]
  intro x hx; rw [h x hx]; simp
/-- No source holds the address. -/
theorem prs_none1 {l : List Ru} {h : Hd} (hn : ∀ s ∈ l.map sr, hasX s h.s = false) : prsL l h = [] := filter_none fun i hi => by
  rw [hn _ (src_mem (List.mem_range.1 hi))]; rfl
/-- A source does, the longest, but no destination. -/
theorem prs_none2 {l : List Ru} {h : Hd} (o : OkA l) {s : Nat × Nat} (hs : s ∈ l.map sr) (h1 : hasX s h.s = true) (hm : ∀ t ∈ l.map sr, hasX t h.s = true → t.2 ≤ s.2) (hn : ∀ d ∈ tgL l s, hasX d h.d = false) : prsL l h = [] := filter_none fun i hi => by
  have hi' := List.mem_range.1 hi
  by_cases e : hasX (sr (ruAt l i)) h.s = true
  · have := wit_of (o.src hs) (o.at hi').1 h1 e (hm _ (src_mem hi') e)
    rw [hn _ (List.mem_map.2 ⟨i, List.mem_filter.2 ⟨hi, this⟩, rfl⟩), Bool.and_false]
  · rw [Bool.not_eq_true] at e; rw [e]; rfl
/-- Both do. -/
theorem prs_some {l : List Ru} {h : Hd} (o : OkA l) {s d : Nat × Nat} (hs : s ∈ l.map sr) (h1 : hasX s h.s = true) (hm : ∀ t ∈ l.map sr, hasX t h.s = true → t.2 ≤ s.2) (hd : d ∈ tgL l s) (h2 : hasX d h.d = true) (hn : ∀ t ∈ tgL l s, hasX t h.d = true → t.2 ≤ d.2) : lsL l s d = prsL l h := by
  unfold lsL amgL holdL prsL
  rw [List.filter_filter]
  refine List.filter_congr fun i hi => ?_
  have hi' := List.mem_range.1 hi
  have a1 := (o.at hi').1
  have a2 := (o.at hi').2
  have b1 := o.src hs
  have b2 := o.dst hd
  rw [Bool.eq_iff_iff, Bool.and_eq_true, Bool.and_eq_true]
  constructor
  · rintro ⟨e2, e1⟩
    exact ⟨has_of b1 a1 h1 e1, has_of b2 a2 h2 e2⟩
  · rintro ⟨e1, e2⟩
    have w1 := wit_of b1 a1 h1 e1 (hm _ (src_mem hi') e1)
    exact ⟨wit_of b2 a2 h2 e2 (hn _ (List.mem_map.2 ⟨i, List.mem_filter.2 ⟨hi, w1⟩, rfl⟩) e2), w1⟩
/-- The forest of a list. -/
def Plt (l : List Ru) (N : List Pn) (LS : List (List Nat)) : Prop := (l = [] ∧ N = [] ∧ LS = []) ∨ (l ≠ [] ∧ ∃ G, Pla (l.map sr) (tgL l) (lsL l) l.length N G LS)
theorem Pla.src {l : List Ru} {N : List Pn} {G : List Lab} {LS : List (List Nat)} (h : Pla (l.map sr) (tgL l) (lsL l) l.length N G LS) (o : OkA l) {a v : Nat} (ha : a < 4294967296) (L : Lng N G 0 a 33 v) :
    (v = 0 ∧ ∀ d ∈ l.map sr, hasX d a = false) ∨ (v ≠ 0 ∧ ∃ d ∈ l.map sr, hasX d a = true ∧ Hung N G LS v (tgL l d) (lsL l d) ∧ ∀ t ∈ l.map sr, hasX t a = true → t.2 ≤ d.2) := by
  have e : (l.map sr).take l.length = l.map sr := by rw [List.take_of_length_le (by simp)]
  have h1 := h.sound; have h2 := h.full
  rw [e] at h1 h2
  exact lng_find (P := fun d v => Hung N G LS v (tgL l d) (lsL l d)) h1 h2 (fun d hd => okx_of (o.src hd)) ha L
theorem Hung.dst {l : List Ru} {s : Nat × Nat} {N : List Pn} {G : List Lab} {LS : List (List Nat)} {r : Nat} (h : Hung N G LS r (tgL l s) (lsL l s)) (o : OkA l) {a v : Nat} (ha : a < 4294967296) (L : Lng N G r a 33 v) :
    (v = 0 ∧ ∀ d ∈ tgL l s, hasX d a = false) ∨ (v ≠ 0 ∧ ∃ d ∈ tgL l s, hasX d a = true ∧ LS[v - 1]? = some (lsL l s d) ∧ ∀ t ∈ tgL l s, hasX t a = true → t.2 ≤ d.2) :=
  lng_find (P := fun d v => LS[v - 1]? = some (lsL l s d)) h.2.2.1 h.2.2.2 (fun d hd => okx_of (o.dst hd)) ha L
/-- How large it is. -/
theorem map_range {α : Type} (l : List Ru) (f : Ru → α) : (List.range l.length).map (fun i => f (ruAt l i)) = l.map f := by
  apply List.ext_getElem (by simp)
  intro i h1 h2
  simp at h1
  simp [ruAt, h1]
theorem tgL_tgs (l : List Ru) (s : Nat × Nat) : tgL l s = tgs witX (l.map pr) s := by
  unfold tgs
  rw [← map_range l pr, List.filter_map, List.map_map]
  rfl
theorem lsL_len (l : List Ru) (s d : Nat × Nat) : (lsL l s d).length = (tgL l s).countP (witX d) := by
  unfold lsL amgL tgL dsL
  rw [List.countP_map, List.countP_eq_length_filter]; rfl
theorem sum_prn (l : List Ru) : sumF (fun s => sumF (fun d => (lsL l s d).length) (uq (tgL l s))) (uq (l.map sr)) = prnN witX (l.map pr) := by
  unfold prnN
  rw [show (l.map pr).map (·.1) = l.map sr by simp [pr]]
  refine sumF_congr fun s _ => ?_
  unfold hel
  rw [tgL_tgs]
  exact sumF_congr fun d _ => by rw [lsL_len, tgL_tgs]
theorem sum_grd (l : List Ru) : sumF (fun s => (tgL l s).length) (uq (l.map sr)) = grdN witX (l.map pr) := by
  unfold grdN hel
  rw [show (l.map pr).map (·.1) = l.map sr by simp [pr]]
  exact sumF_congr fun s _ => by rw [tgL_tgs, tgs_len, show (l.map pr).map (·.1) = l.map sr by simp [pr]]
theorem OkA.wit {l : List Ru} (o : OkA l) : (∀ r ∈ l.map pr, witX r.1 r.1 = true) ∧ ∀ r ∈ l.map pr, witX r.2 r.2 = true := by
  constructor
  · intro r hr
    obtain ⟨R, hR, rfl⟩ := List.mem_map.1 hr
    obtain ⟨a, b⟩ := o R hR
    exact witX_self (okR_sr b a).1
  · intro r hr
    obtain ⟨R, hR, rfl⟩ := List.mem_map.1 hr
    obtain ⟨a, b⟩ := o R hR
    exact witX_self (okR_sr b a).2.2.1
theorem Plt.sum {l : List Ru} {N : List Pn} {LS : List (List Nat)} (h : Plt l N LS) : pnTot LS = prnN witX (l.map pr) := by
  rcases h with ⟨rfl, rfl, rfl⟩ | ⟨_, G, h⟩
  · rfl
  · have := h.sum
    rw [List.take_of_length_le (by simp)] at this
    rw [this, sum_prn]
theorem sum_32 {f : Nat × Nat → Nat} : ∀ u : List (Nat × Nat), (∀ x ∈ u, 1 ≤ f x) → sumF (fun s => 1 + 32 * f s) u ≤ 33 * sumF f u
  | [], _ => by simp [sumF]
  | a :: u, h => by
    rw [sumF_cons, sumF_cons]
    have := sum_32 u fun x hx => h x (List.mem_cons_of_mem _ hx)
    have := h a (List.mem_cons_self ..)
    omega
theorem Plt.few {l : List Ru} {N : List Pn} {LS : List (List Nat)} (h : Plt l N LS) (o : OkA l) : N.length ≤ 33 * (grdN witX (l.map pr) + l.length) + 1 := by
  rcases h with ⟨rfl, rfl, rfl⟩ | ⟨_, G, h⟩
  · simp
  · have h1 := h.few
    have h2 := h.wf.len
    rw [List.take_of_length_le (by simp)] at h1
    have h3 := sum_32 (f := fun s => (tgL l s).length) (uq (l.map sr)) (fun s hs => by
      have hs' := (mem_uq _ _).1 hs
      obtain ⟨R, hR, rfl⟩ := List.mem_map.1 hs'
      obtain ⟨i, hi, e⟩ := List.mem_iff_getElem.1 hR
      have : i ∈ holdL l (sr R) := List.mem_filter.2 ⟨List.mem_range.2 hi, by rw [ruAt_at hi, e]; exact witX_self (o.src hs')⟩
      exact List.length_pos_of_mem (List.mem_map.2 ⟨i, this, rfl⟩))
    rw [sum_grd] at h3
    omega
theorem Plt.lens {l : List Ru} {N : List Pn} {LS : List (List Nat)} (h : Plt l N LS) : LS.length ≤ grdN witX (l.map pr) := by
  rcases h with ⟨rfl, rfl, rfl⟩ | ⟨_, G, h⟩
  · simp
  · have h1 := h.lists
    rw [List.take_of_length_le (by simp), sum_grd] at h1
    exact h1
theorem grd_le (l : List Ru) : grdN witX (l.map pr) ≤ l.length * l.length := by
  have := hel_le (W := witX) ((l.map pr).map (·.1))
  unfold grdN
  simpa using this
/-- The first match is one of the places. -/
theorem prs_lt {l : List Ru} {h : Hd} {i : Nat} (hi : i ∈ prsL l h) : i < l.length := List.mem_range.1 (List.mem_filter.1 hi).1
theorem prs_count {l : List Ru} (o : OkA l) (h : Hd) : (prsL l h).length = prsN l h := by
  unfold prsL prsN
  have e : prsB h = (prsB h ∘ id) := rfl
  have : l.countP (prsB h) = ((List.range l.length).map (fun i => ruAt l i)).countP (prsB h) := by rw [map_range l (fun R => R)]; simp
  rw [this, List.countP_map, List.countP_eq_length_filter]
  congr 1
  refine List.filter_congr fun i hi => ?_
  have hi' := List.mem_range.1 hi
  obtain ⟨a, b⟩ := o _ (List.getElem_mem hi')
  have k := okR_sr b a
  simp only [Function.comp_apply, prsB]
  rw [ruAt_at hi', b, Bool.true_and, hasB_X k.1 k.2.1, hasB_Y k.2.2.1 k.2.2.2]
theorem prs_match {l : List Ru} (o : OkA l) {h : Hd} {i : Nat} (hi : i < l.length) (hm : matchR l[i] h = true) : i ∈ prsL l h := by
  obtain ⟨a, b⟩ := o _ (List.getElem_mem hi)
  have k := okR_sr b a
  unfold matchR at hm
  simp only [Bool.and_eq_true] at hm
  refine List.mem_filter.2 ⟨List.mem_range.2 hi, ?_⟩
  rw [ruAt_at hi, ← hasB_X k.1 k.2.1, ← hasB_Y k.2.2.1 k.2.2.2, hm.2.1.1.1.1, hm.2.1.1.1.2]; rfl
theorem prs_sorted (l : List Ru) (h : Hd) : (prsL l h).Pairwise (· < ·) := List.Pairwise.filter _ List.pairwise_lt_range
theorem matP_none (h : Hd) : ∀ (l : List Ru) (b : Nat), (∀ R ∈ l, matchR R h = false) → matK h l b = -1
  | [], b, _ => rfl
  | R :: l, b, hn => by
    unfold matK
    rw [if_neg (by rw [hn R (by simp)]; simp)]
    exact matP_none h l (b + 1) fun S hS => hn S (by simp [hS])
theorem matP_at (h : Hd) : ∀ (l : List Ru) (b k : Nat) (hk : k < l.length), (∀ j (hj : j < k), matchR (l[j]'(by omega)) h = false) → matchR (l[k]'hk) h = true → matK h l b = ((b + k : Nat) : Int)
  | R :: l, b, 0, _, _, hm => by unfold matK; rw [if_pos (by simpa using hm)]; rfl
  | R :: l, b, k + 1, hk, hn, hm => by
    unfold matK
    have h0 : matchR R h = false := by simpa using hn 0 (by omega)
    rw [if_neg (by rw [h0]; simp), matP_at h l (b + 1) k (by simpa using hk) (fun j hj => by simpa using hn (j + 1) (by omega)) (by simpa using hm)]
    congr 1; omega
theorem mat_prs_none {l : List Ru} (o : OkA l) {h : Hd} (hn : ∀ i ∈ prsL l h, matchR (ruAt l i) h = false) : mat l h = -1 := by
  refine matP_none h l 0 fun R hR => ?_
  obtain ⟨i, hi, rfl⟩ := List.mem_iff_getElem.1 hR
  rw [Bool.eq_false_iff]
  intro hm
  have := hn i (prs_match o hi hm)
  rw [ruAt_at hi, hm] at this; cases this
theorem mat_prs_at {l : List Ru} (o : OkA l) {h : Hd} {k : Nat} (hk : k < (prsL l h).length) (hn : ∀ j (hj : j < k), matchR (ruAt l ((prsL l h)[j]'(by omega))) h = false) (hm : matchR (ruAt l (prsL l h)[k]) h = true) : mat l h = ((prsL l h)[k] : Nat) := by
  have hlt := prs_lt (List.getElem_mem hk)
  have := matP_at h l 0 (prsL l h)[k] hlt (fun j hj => by
    rw [Bool.eq_false_iff]
    intro hmj
    have hin := prs_match o (by omega) hmj
    obtain ⟨j', hj', e⟩ := List.mem_iff_getElem.1 hin
    have hjk : j' < k := by
      apply Classical.byContradiction
      intro hge
      rcases Nat.lt_or_eq_of_le (Nat.le_of_not_lt hge) with h1 | h1
      · have := (List.pairwise_iff_getElem.1 (prs_sorted l h)) k j' hk hj' h1
        omega
      · subst h1; omega
    have := hn j' hjk
    rw [show ruAt l ((prsL l h)[j']'hj') = l[j]'(by omega) by rw [ruAt_at (by omega)]; simp only [e]] at this
    rw [hmj] at this; cases this) (by rw [← ruAt_at hlt]; exact hm)
  unfold mat
  rw [this, Nat.zero_add]
end Go.Proofs.YtgidohnikggjfaaGreat
/-
  The mathematics of grid's forest: rules are sown, each source has the destinations of its own rules; lists of places; what a header finds.
-/
namespace Go.Proofs.YtgidohnikggjfaaGreat
set_option linter.unusedVariables false
set_option linter.unusedSimpArgs false

theorem Gw.start : Gw [pz, pz] [(0, []), (1, [])] := by
  have hw : Wf (([] ++ [pz]) ++ [pz]) (([] ++ [(([] : List Pn).length, [])]) ++ [((([] : List Pn) ++ [pz]).length, [])]) := Wf.nil.grow.grow
  refine ⟨hw, rfl, fun i q hi => ?_, rfl, fun i r q hi b hb => ?_⟩
  · match i, hi with
    | 0, hi => exact (congrArg Prod.snd (Option.some.inj hi)).symm
    | 1, hi => have := congrArg Prod.fst (Option.some.inj hi); simp at this
    | i + 2, hi => simp at hi
  · match i, hi with
    | 0, hi => obtain rfl : q = [] := (congrArg Prod.snd (Option.some.inj hi)).symm; simp at hb
    | 1, hi => obtain rfl : q = [] := (congrArg Prod.snd (Option.some.inj hi)).symm; simp at hb
    | i + 2, hi => simp at hi
theorem Gw.grow {N : List Pn} {G : List Lab} (h : Gw N G) : Gw (N ++ [pz]) (G ++ [(N.length, [])]) := by
  refine ⟨h.wf.grow, pn_app.2 (.inl h.z), fun i q hi => ?_, pn_app.2 (.inl h.r1), fun i r q hi b hb => ?_⟩
  · rcases pn_app.1 hi with e | ⟨_, e⟩
    · exact h.zo i q e
    · exact congrArg Prod.snd e
  · rcases pn_app.1 hi with e | ⟨_, e⟩
    · exact h.bit i r q e b hb
    · rw [show q = [] from congrArg Prod.snd e] at hb; simp at hb
theorem Gw.bear {N : List Pn} {G : List Lab} (h : Gw N G) {i : Nat} {x : Pn} (hx : N[i]? = some x) (v : Nat) : Gw (N.set i (x.bear v)) G := ⟨h.wf.bear hx v, h.z, h.zo, h.r1, h.bit⟩
/-- A way was gone below r, and new nodes stand below r. -/
structure Rg (N : List Pn) (G : List Lab) (r : Nat) (q : List Nat) (N' : List Pn) (G' : List Lab) (t : Nat) : Prop where
  rch : Rch N G r q N' G' t
  gw : Gw N' G'
theorem Rg.nil {N : List Pn} {G : List Lab} (h : Gw N G) {r t : Nat} (hr : G[t]? = some (r, [])) : Rg N G r [] N G t := ⟨Rch.nil h.wf hr, h⟩
theorem Rg.make {N N1 : List Pn} {G G1 : List Lab} {r : Nat} {q : List Nat} {t u : Nat} {x : Pn} (h : Rg N G r q N1 G1 t) (hr : r ≠ 0) (hx : N1[t]? = some x) (hu : u < 2) (hk : x.kid u = 0) (hq : q.length < 32) :
    Rg N G r (q ++ [u]) ((N1 ++ [pz]).set t (x.put u N1.length)) (G1 ++ [(r, q ++ [u])]) N1.length := by
  have R := h.rch.make hx hu hk hq
  refine ⟨R, R.wf, pn_app.2 (.inl h.gw.z), fun i p hi => ?_, pn_app.2 (.inl h.gw.r1), fun i r' p hi b hb => ?_⟩
  · rcases pn_app.1 hi with e | ⟨_, e⟩
    · exact h.gw.zo i p e
    · exact absurd (congrArg Prod.fst e).symm hr
  · rcases pn_app.1 hi with e | ⟨_, e⟩
    · exact h.gw.bit i r' p e b hb
    · rw [show p = q ++ [u] from congrArg Prod.snd e] at hb
      rcases List.mem_append.1 hb with h1 | h1
      · exact h.gw.bit t r q h.rch.here b h1
      · rw [List.mem_singleton.1 h1]; exact hu
theorem Rg.go {N N1 : List Pn} {G G1 : List Lab} {r : Nat} {q : List Nat} {t u : Nat} {x : Pn} (h : Rg N G r q N1 G1 t) (hx : N1[t]? = some x) (hu : u < 2) (hk : x.kid u ≠ 0) :
    Rg N G r (q ++ [u]) N1 G1 (x.kid u) := ⟨h.rch.go hx hu hk, h.gw⟩

/-- j rules are sown. -/
structure Sow (l : List Ru) (j : Nat) (N : List Pn) (G : List Lab) : Prop where
  gw : Gw N G
  only : ∀ r q v, Bs N G r q v → r = 1
  sound : ∀ q v, Bs N G 1 q v → (∃ i, i < j ∧ q = pp (sr (ruAt l i))) ∧ 1 < v ∧ G[v]? = some (v, [])
  inj : ∀ q q' v, Bs N G 1 q v → Bs N G 1 q' v → q = q'
  full : ∀ i, i < j → ∃ v, Bs N G 1 (pp (sr (ruAt l i))) v ∧ ∃ k : Nat, G[k]? = some (v, pp (ds (ruAt l i)))
  few : N.length ≤ 2 + 65 * j
/-- Of rule j the source is there, with the root r of its destinations. -/
structure Smid (l : List Ru) (j : Nat) (N : List Pn) (G : List Lab) (r : Nat) : Prop where
  gw : Gw N G
  only : ∀ r q v, Bs N G r q v → r = 1
  sound : ∀ q v, Bs N G 1 q v → (∃ i, i < j + 1 ∧ q = pp (sr (ruAt l i))) ∧ 1 < v ∧ G[v]? = some (v, [])
  inj : ∀ q q' v, Bs N G 1 q v → Bs N G 1 q' v → q = q'
  full : ∀ i, i < j → ∃ v, Bs N G 1 (pp (sr (ruAt l i))) v ∧ ∃ k : Nat, G[k]? = some (v, pp (ds (ruAt l i)))
  here : Bs N G 1 (pp (sr (ruAt l j))) r
  few : N.length ≤ 2 + 65 * j + 33
theorem Sow.zero (l : List Ru) : Sow l 0 [pz, pz] [(0, []), (1, [])] := by
  have hno : ∀ r q v, ¬ Bs [pz, pz] [(0, []), (1, [])] r q v := fun r q v hb => by
    have h1 := (Bs.grow (N := [pz]) (G := [(0, [])]) rfl (1, [])).1 hb
    have h2 := (Bs.grow (N := []) (G := []) rfl (0, [])).1 h1
    obtain ⟨i, x, a1, _⟩ := h2
    simp at a1
  exact ⟨Gw.start, fun r q v hb => absurd hb (hno r q v), fun q v hb => absurd hb (hno 1 q v), fun q q' v hb => absurd hb (hno 1 q v), fun i hi => by omega, by simp⟩
theorem pp_len {x : Nat × Nat} (h : Okx x) : (pp x).length ≤ 32 := by unfold pp; rw [pth_len]; exact h.2.1
theorem Sow.midA {l : List Ru} {j : Nat} {N N1 : List Pn} {G G1 : List Lab} {t : Nat} {x : Pn} (h : Sow l j N G) (R : Rg N G 1 (pp (sr (ruAt l j))) N1 G1 t) (hs : Okx (sr (ruAt l j))) (hx : N1[t]? = some x) (hc : x.c ≠ 0) : Smid l j N1 G1 x.c := by
  have hb : Bs N1 G1 1 (pp (sr (ruAt l j))) x.c := (Bs.at R.gw.wf R.rch.here hx).2 ⟨rfl, hc⟩
  refine ⟨R.gw, fun r q v e => h.only r q v ((R.rch.bs _ _ _).1 e), fun q v e => ?_, fun q q' v e e' => h.inj q q' v ((R.rch.bs _ _ _).1 e) ((R.rch.bs _ _ _).1 e'), fun i hi => ?_, hb, ?_⟩
  · obtain ⟨⟨i, a1, a2⟩, a3, a4⟩ := h.sound q v ((R.rch.bs _ _ _).1 e)
    exact ⟨⟨i, by omega, a2⟩, a3, R.rch.ext _ _ a4⟩
  · obtain ⟨v, a1, k, a2⟩ := h.full i hi
    exact ⟨v, (R.rch.bs _ _ _).2 a1, k, R.rch.ext _ _ a2⟩
  · have h1 := R.rch.few; have h2 := R.gw.wf.len; have h3 := h.gw.wf.len; have h4 := pp_len hs; have h5 := h.few
    omega
theorem Sow.midB {l : List Ru} {j : Nat} {N N1 : List Pn} {G G1 : List Lab} {t : Nat} {x : Pn} (h : Sow l j N G) (R : Rg N G 1 (pp (sr (ruAt l j))) N1 G1 t) (hs : Okx (sr (ruAt l j))) (hx : N1[t]? = some x) (hc : x.c = 0) : Smid l j ((N1 ++ [pz]).set t (x.bear N1.length)) (G1 ++ [(N1.length, [])]) N1.length := by
  have hx2 : (N1 ++ [pz])[t]? = some x := pn_app.2 (.inl hx)
  have hg2 : (G1 ++ [(N1.length, [])])[t]? = some (1, pp (sr (ruAt l j))) := pn_app.2 (.inl R.rch.here)
  have hl1 : 1 < N1.length := by rw [R.gw.wf.len]; exact pn_lt R.gw.r1
  have hB := fun r q v => (Bs.bear R.gw.grow.wf hx2 hg2 hc (u := N1.length) (by omega) (r := r) (q := q) (v := v)).trans (or_congr Iff.rfl ((Bs.grow R.gw.wf.len (N1.length, [])).trans (R.rch.bs r q v)))
  have hold : ∀ q v, Bs N G 1 q v → v < N1.length := fun q v e => by
    have h1 := pn_lt (h.sound q v e).2.2
    have h2 := R.rch.few
    rw [R.gw.wf.len]; omega
  have hnew : ∀ v, ¬ Bs N G 1 (pp (sr (ruAt l j))) v := fun v e => by
    have := (Bs.at R.gw.wf R.rch.here hx).1 ((R.rch.bs _ _ _).2 e)
    omega
  refine ⟨R.gw.grow.bear hx2 _, fun r q v e => ?_, fun q v e => ?_, fun q q' v e e' => ?_, fun i hi => ?_, (hB _ _ _).2 (.inl ⟨rfl, rfl, rfl⟩), ?_⟩
  · rcases (hB _ _ _).1 e with ⟨e1, _⟩ | e1
    · exact e1
    · exact h.only r q v e1
  · rcases (hB _ _ _).1 e with ⟨_, e1, e2⟩ | e1
    · subst e2
      exact ⟨⟨j, by omega, e1⟩, hl1, pn_app.2 (.inr ⟨R.gw.wf.len, rfl⟩)⟩
    · obtain ⟨⟨i, a1, a2⟩, a3, a4⟩ := h.sound q v e1
      exact ⟨⟨i, by omega, a2⟩, a3, pn_app.2 (.inl (R.rch.ext _ _ a4))⟩
  · rcases (hB _ _ _).1 e with ⟨_, e1, e2⟩ | e1 <;> rcases (hB _ _ _).1 e' with ⟨_, f1, f2⟩ | f1
    · rw [e1, f1]
    · have := hold q' v f1; omega
    · have := hold q v e1; omega
    · exact h.inj q q' v e1 f1
  · obtain ⟨v, a1, k, a2⟩ := h.full i hi
    exact ⟨v, (hB _ _ _).2 (.inr a1), k, pn_app.2 (.inl (R.rch.ext _ _ a2))⟩
  · rw [List.length_set, List.length_append]
    have h1 := R.rch.few; have h2 := R.gw.wf.len; have h3 := h.gw.wf.len; have h4 := pp_len hs; have h5 := h.few
    simp; omega
theorem Smid.root {l : List Ru} {j : Nat} {N : List Pn} {G : List Lab} {r : Nat} (h : Smid l j N G r) : 1 < r ∧ G[r]? = some (r, []) := (h.sound _ _ h.here).2
theorem Smid.done {l : List Ru} {j : Nat} {N N1 : List Pn} {G G1 : List Lab} {r t : Nat} (h : Smid l j N G r) (R : Rg N G r (pp (ds (ruAt l j))) N1 G1 t) (hs : Okx (ds (ruAt l j))) : Sow l (j + 1) N1 G1 := by
  refine ⟨R.gw, fun r q v e => h.only r q v ((R.rch.bs _ _ _).1 e), fun q v e => ?_, fun q q' v e e' => h.inj q q' v ((R.rch.bs _ _ _).1 e) ((R.rch.bs _ _ _).1 e'), fun i hi => ?_, ?_⟩
  · obtain ⟨a1, a3, a4⟩ := h.sound q v ((R.rch.bs _ _ _).1 e)
    exact ⟨a1, a3, R.rch.ext _ _ a4⟩
  · by_cases e : i = j
    · subst e
      exact ⟨r, (R.rch.bs _ _ _).2 h.here, t, R.rch.here⟩
    · obtain ⟨v, a1, k, a2⟩ := h.full i (by omega)
      exact ⟨v, (R.rch.bs _ _ _).2 a1, k, R.rch.ext _ _ a2⟩
  · have h1 := R.rch.few; have h2 := R.gw.wf.len; have h3 := h.gw.wf.len; have h4 := pp_len hs; have h5 := h.few
    omega
/-- The root of a source's destinations. -/
def Bf (N : List Pn) (G : List Lab) (q : List Nat) : Nat := (nd N (ix G (1, q))).c
theorem Sow.c0 {l : List Ru} {j : Nat} {N : List Pn} {G : List Lab} (h : Sow l j N G) : (nd N 0).c = 0 := by
  apply Classical.byContradiction
  intro e
  obtain ⟨x, hx⟩ := h.gw.wf.node h.gw.z
  rw [nd_at hx] at e
  have := h.only 0 [] x.c ⟨0, x, h.gw.z, hx, rfl, e⟩
  omega
theorem Sow.bs {l : List Ru} {j : Nat} {N : List Pn} {G : List Lab} (h : Sow l j N G) (q : List Nat) (v : Nat) : Bs N G 1 q v ↔ Bf N G q = v ∧ v ≠ 0 := by
  constructor
  · rintro ⟨i, x, a1, a2, a3, a4⟩
    unfold Bf
    rw [h.gw.ix_of a1, nd_at a2]
    exact ⟨a3, a4⟩
  · rintro ⟨e, hv⟩
    by_cases hi : ix G (1, q) = 0
    · unfold Bf at e
      rw [hi, h.c0] at e
      exact absurd e.symm hv
    · obtain ⟨x, hx⟩ := h.gw.wf.node (ix_at hi)
      unfold Bf at e
      rw [nd_at hx] at e
      exact ⟨_, x, ix_at hi, hx, e, hv⟩
theorem Sow.bk {l : List Ru} {j : Nat} {N : List Pn} {G : List Lab} (h : Sow l j N G) : Bk G (Bf N G) := by
  refine ⟨fun q q' e hn => h.inj q q' _ ((h.bs q _).2 ⟨rfl, hn⟩) ((h.bs q' _).2 ⟨e.symm, hn⟩), fun q e => ?_, fun q hn => (h.sound q _ ((h.bs q _).2 ⟨rfl, hn⟩)).2.2, fun q hn e => ?_⟩
  · have := (h.sound q _ ((h.bs q _).2 ⟨rfl, by rw [e]; decide⟩)).2.1
    omega
  · unfold Bf at hn
    rw [e, h.c0] at hn
    exact hn rfl
/-- The entries: below each source the rules whose source holds it, as far as their destinations have nodes there. -/
def entC (l : List Ru) (N : List Pn) (G : List Lab) (s : Nat × Nat) (p : Nat) : Nat := ix G (Bf N G (pp s), pp (ds (ruAt l p)))
def entP (l : List Ru) (N : List Pn) (G : List Lab) (s : Nat × Nat) (p : Nat) : Bool := decide (entC l N G s p ≠ 0) && witX s (sr (ruAt l p))
def entS (l : List Ru) (N : List Pn) (G : List Lab) (s : Nat × Nat) (k : Nat) : List (Nat × Nat) := ((List.range k).filter (entP l N G s)).map fun p => (entC l N G s p, p)
def entL (l : List Ru) (N : List Pn) (G : List Lab) (S : List (Nat × Nat)) : List (Nat × Nat) := S.flatMap fun s => entS l N G s l.length
def lstF (E : List (Nat × Nat)) (i : Nat) : List Nat := (E.filter fun e => e.1 == i).map (·.2)
theorem entS_step (l : List Ru) (N : List Pn) (G : List Lab) (s : Nat × Nat) (k : Nat) : entS l N G s (k + 1) = if entP l N G s k then entS l N G s k ++ [(entC l N G s k, k)] else entS l N G s k := by
  unfold entS
  rw [List.range_succ, List.filter_append, List.map_append]
  cases e : entP l N G s k <;> simp [e]
theorem entL_snoc (l : List Ru) (N : List Pn) (G : List Lab) (S : List (Nat × Nat)) (s : Nat × Nat) : entL l N G (S ++ [s]) = entL l N G S ++ entS l N G s l.length := by unfold entL; simp
theorem flat_one {α β : Type} {s : α} {g : α → List β} : ∀ {S : List α}, S.Nodup → s ∈ S → (∀ s' ∈ S, s' ≠ s → g s' = []) → S.flatMap g = g s
  | [], _, hs, _ => by simp at hs
  | a :: S, hn, hs, h => by
    rw [List.nodup_cons] at hn
    rw [List.flatMap_cons]
    rcases List.mem_cons.1 hs with e | e
    · subst e
      have : S.flatMap g = [] := by
        rw [List.flatMap_eq_nil_iff]
        intro x hx
        exact h x (List.mem_cons_of_mem _ hx) fun e => hn.1 (e ▸ hx)
      rw [this, List.append_nil]
    · rw [h a (List.mem_cons_self ..) (fun e' => hn.1 (e' ▸ e)), List.nil_append, flat_one hn.2 e fun x hx => h x (List.mem_cons_of_mem _ hx)]
theorem lst_flat (S : List (Nat × Nat)) (f : Nat × Nat → List (Nat × Nat)) (i : Nat) : lstF (S.flatMap f) i = S.flatMap fun s => lstF (f s) i := by
  unfold lstF
  rw [List.filter_flatMap, List.map_flatMap]
/-- The unlike sources of the rules. -/
def Srs (l : List Ru) (S : List (Nat × Nat)) : Prop := S.Nodup ∧ ∀ x, x ∈ S ↔ x ∈ l.map sr
theorem lst_of {l : List Ru} {N : List Pn} {G : List Lab} {S : List (Nat × Nat)} (h : Sow l l.length N G) (o : OkA l) (hS : Srs l S) {s : Nat × Nat} (hs : s ∈ S) {q : List Nat} (hi : ix G (Bf N G (pp s), q) ≠ 0) :
    lstF (entL l N G S) (ix G (Bf N G (pp s), q)) = (List.range l.length).filter fun p => decide (pp (ds (ruAt l p)) = q) && witX s (sr (ruAt l p)) := by
  have hb : Bf N G (pp s) ≠ 0 := fun e => hi (by rw [e]; exact h.gw.ix_zero _)
  unfold entL
  rw [lst_flat, flat_one hS.1 hs fun s' hs' hne => ?_]
  · unfold lstF entS
    rw [List.filter_map, List.map_map, List.filter_filter]
    have e1 : ((fun x : Nat × Nat => x.2) ∘ fun p => (entC l N G s p, p)) = id := rfl
    rw [e1, List.map_id]
    refine List.filter_congr fun p _ => ?_
    show ((entC l N G s p == ix G (Bf N G (pp s), q)) && entP l N G s p) = _
    by_cases e : pp (ds (ruAt l p)) = q
    · have e2 : entC l N G s p = ix G (Bf N G (pp s), q) := by unfold entC; rw [e]
      unfold entP
      rw [e2, decide_eq_true e, decide_eq_true hi, beq_self_eq_true, Bool.true_and, Bool.true_and]
    · have e2 : entC l N G s p ≠ ix G (Bf N G (pp s), q) := fun e3 => by
        have h1 := ix_at (G := G) (x := (Bf N G (pp s), pp (ds (ruAt l p)))) (by unfold entC at e3; rw [e3]; exact hi)
        have h2 := ix_at hi
        unfold entC at e3
        rw [e3, h2] at h1
        exact e (congrArg Prod.snd (Option.some.inj h1)).symm
      rw [decide_eq_false e, beq_eq_false_iff_ne.2 e2, Bool.false_and, Bool.false_and]
  · unfold lstF
    rw [List.map_eq_nil_iff, List.filter_eq_nil_iff]
    intro e he hei
    obtain ⟨p, hp, rfl⟩ := List.mem_map.1 he
    have hei' : entC l N G s' p = ix G (Bf N G (pp s), q) := by simpa using hei
    have h1 := ix_at (G := G) (x := (Bf N G (pp s'), pp (ds (ruAt l p)))) (by unfold entC at hei'; rw [hei']; exact hi)
    have h2 := ix_at hi
    unfold entC at hei'
    rw [hei', h2] at h1
    have h3 : Bf N G (pp s') = Bf N G (pp s) := (congrArg Prod.fst (Option.some.inj h1)).symm
    have h4 := h.bk.inj _ _ h3 (by rw [h3]; exact hb)
    exact hne (pp_inj (okx_of (o.src ((hS.2 s').1 hs'))) (okx_of (o.src ((hS.2 s).1 hs))) h4)
/-- How many entries. -/
theorem ent_len_flat {l : List Ru} {N : List Pn} {G : List Lab} : ∀ S : List (Nat × Nat), (entL l N G S).length = sumF (fun s => (entS l N G s l.length).length) S
  | [] => rfl
  | a :: S => by
    rw [sumF_cons, ← ent_len_flat S]
    unfold entL
    rw [List.flatMap_cons, List.length_append]
theorem ent_le {l : List Ru} {N : List Pn} {G : List Lab} {S : List (Nat × Nat)} (hS : Srs l S) : (entL l N G S).length ≤ grdN witX (l.map pr) := by
  rw [ent_len_flat, ← sum_grd, ← uq_sum hS.1 hS.2]
  refine sumF_le fun s _ => ?_
  unfold entS tgL dsL holdL
  rw [List.length_map, List.length_map]
  rw [← List.countP_eq_length_filter, ← List.countP_eq_length_filter]
  refine List.countP_mono_left fun p _ hp => ?_
  unfold entP at hp
  rw [Bool.and_eq_true] at hp
  exact hp.2
theorem ent_ge {l : List Ru} {N : List Pn} {G : List Lab} {S : List (Nat × Nat)} (h : Sow l l.length N G) (o : OkA l) (hS : Srs l S) : l.length ≤ (entL l N G S).length := by
  have h1 : (List.range l.length).length ≤ ((entL l N G S).map (·.2)).length := by
    refine List.Nodup.length_le_of_subset List.nodup_range fun p hp => ?_
    have hp' := List.mem_range.1 hp
    obtain ⟨v, a1, k, a2⟩ := h.full p hp'
    obtain ⟨e1, e2⟩ := (h.bs _ _).1 a1
    have hne : entC l N G (sr (ruAt l p)) p ≠ 0 := by
      unfold entC
      rw [e1, h.gw.ix_of a2]
      rintro rfl
      rw [h.gw.z] at a2
      exact e2 (congrArg Prod.fst (Option.some.inj a2)).symm
    refine List.mem_map.2 ⟨(entC l N G (sr (ruAt l p)) p, p), List.mem_flatMap.2 ⟨sr (ruAt l p), (hS.2 _).2 (src_mem hp'), List.mem_map.2 ⟨p, List.mem_filter.2 ⟨hp, ?_⟩, rfl⟩⟩, rfl⟩
    unfold entP
    rw [decide_eq_true hne, witX_self (o.at hp').1]; rfl
  simpa using h1
theorem ent_lt {l : List Ru} {N : List Pn} {G : List Lab} {S : List (Nat × Nat)} (hw : Gw N G) : ∀ e ∈ entL l N G S, e.1 < N.length ∧ e.1 ≠ 0 ∧ e.2 < l.length := by
  intro e he
  obtain ⟨s, _, h1⟩ := List.mem_flatMap.1 he
  obtain ⟨p, hp, rfl⟩ := List.mem_map.1 h1
  obtain ⟨h2, h3⟩ := List.mem_filter.1 hp
  unfold entP at h3
  rw [Bool.and_eq_true, decide_eq_true_iff] at h3
  exact ⟨hw.ix_lt _, h3.1, List.mem_range.1 h2⟩
/-- Where a node's list begins. -/
def offE (E : List (Nat × Nat)) (k : Nat) : Nat := (E.filter fun e => decide (e.1 < k)).length
theorem offE_zero (E : List (Nat × Nat)) : offE E 0 = 0 := by unfold offE; rw [filter_none fun x _ => by simp]; rfl
theorem offE_le (E : List (Nat × Nat)) (k : Nat) : offE E k ≤ E.length := List.length_filter_le _ _
theorem offE_step : ∀ (E : List (Nat × Nat)) (k : Nat), offE E (k + 1) = offE E k + (lstF E k).length
  | [], _ => rfl
  | e :: E, k => by
    have ih := offE_step E k
    unfold offE lstF at *
    rw [List.length_map] at *
    simp only [List.filter_cons]
    by_cases h1 : e.1 < k
    · rw [if_pos (by simpa using (by omega : e.1 < k + 1)), if_pos (by simpa using h1), if_neg (by simpa using (by omega : e.1 ≠ k))]
      simp only [List.length_cons]; omega
    · by_cases h2 : e.1 = k
      · rw [if_pos (by simpa using (by omega : e.1 < k + 1)), if_neg (by simpa using h1), if_pos (by simpa using h2)]
        simp only [List.length_cons]; omega
      · rw [if_neg (by simpa using (by omega : ¬ e.1 < k + 1)), if_neg (by simpa using h1), if_neg (by simpa using h2)]
        exact ih
theorem offE_mono (E : List (Nat × Nat)) {i j : Nat} (h : i ≤ j) : offE E i ≤ offE E j := by
  induction j with
  | zero => rw [show i = 0 by omega]; exact Nat.le_refl _
  | succ j ih =>
    by_cases e : i = j + 1
    · rw [e]; exact Nat.le_refl _
    · have := ih (by omega); rw [offE_step]; omega
theorem offE_all {E : List (Nat × Nat)} {n : Nat} (h : ∀ e ∈ E, e.1 < n) : offE E n = E.length := by
  unfold offE
  rw [List.filter_eq_self.2 fun e he => by simpa using h e he]
theorem tot_off (E : List (Nat × Nat)) : ∀ n, pnTot ((List.range n).map (lstF E)) = offE E n
  | 0 => by rw [offE_zero]; rfl
  | n + 1 => by rw [List.range_succ, List.map_append, List.map_cons, List.map_nil, pnTot_app, tot_off E n, offE_step]
/-- What a header finds at each length of a destination. -/
def prK (l : List Ru) (h : Hd) (k : Nat) : List Nat := (prsL l h).filter fun p => (ds (ruAt l p)).2 == k
theorem look {l : List Ru} {N : List Pn} {G : List Lab} {S : List (Nat × Nat)} (hs : Sow l l.length N G) (o : OkA l) (hS : Srs l S) {h : Hd} (oh : OkH h) {k : Nat} (hk : k < 33) :
    (nf G (Bf N G) (pth h.s 32) (pth h.d k) 33 ≠ 0 → lstF (entL l N G S) (nf G (Bf N G) (pth h.s 32) (pth h.d k) 33) = prK l h k) ∧ (nf G (Bf N G) (pth h.s 32) (pth h.d k) 33 = 0 → prK l h k = []) := by
  have hsp : ∀ p, p < l.length → hasX (sr (ruAt l p)) h.s = true → hasX (ds (ruAt l p)) h.d = true → (ds (ruAt l p)).2 = k → ix G (Bf N G ((pth h.s 32).take (sr (ruAt l p)).2), pth h.d k) ≠ 0 ∧ (sr (ruAt l p)).2 ≤ 32 := fun p hp h1 h2 h3 => by
    have o1 := okx_of (o.at hp).1
    have o2 := okx_of (o.at hp).2
    have e1 := (hasX_pp o1 oh.1).1 h1
    have e2 := (hasX_pp o2 oh.2.1).1 h2
    obtain ⟨v, a1, i, a2⟩ := hs.full p hp
    obtain ⟨b1, b2⟩ := (hs.bs _ _).1 a1
    rw [pth_take _ o1.2.1, ← e1, b1, ← h3, ← e2, hs.gw.ix_of a2]
    refine ⟨?_, o1.2.1⟩
    rintro rfl
    rw [hs.gw.z] at a2
    exact b2 (congrArg Prod.fst (Option.some.inj a2)).symm
  have hmem : ∀ p, p ∈ prK l h k → p < l.length ∧ hasX (sr (ruAt l p)) h.s = true ∧ hasX (ds (ruAt l p)) h.d = true ∧ (ds (ruAt l p)).2 = k := fun p hp => by
    obtain ⟨h1, h2⟩ := List.mem_filter.1 hp
    obtain ⟨h3, h4⟩ := List.mem_filter.1 h1
    rw [Bool.and_eq_true] at h4
    exact ⟨List.mem_range.1 h3, h4.1, h4.2, by simpa using h2⟩
  rcases nf_spec G (Bf N G) (pth h.s 32) (pth h.d k) 33 with ⟨a, b⟩ | ⟨j, h1, b, c, d⟩
  · refine ⟨fun e => absurd a e, fun _ => ?_⟩
    rw [List.eq_nil_iff_forall_not_mem]
    intro p hp
    obtain ⟨m1, m2, m3, m4⟩ := hmem p hp
    obtain ⟨n1, n2⟩ := hsp p m1 m2 m3 m4
    exact n1 (b _ (by omega))
  · refine ⟨fun _ => ?_, fun e => absurd (c.symm.trans e) b⟩
    rw [c]
    rw [pth_take _ (by omega)] at b ⊢
    have hb : Bf N G (pth h.s j) ≠ 0 := fun e => b (by rw [e]; exact hs.gw.ix_zero _)
    obtain ⟨⟨i, hi, e1⟩, _, _⟩ := hs.sound _ _ ((hs.bs _ _).2 ⟨rfl, hb⟩)
    have os := (o.at hi).1
    have ox := okx_of os
    have hj : (sr (ruAt l i)).2 = j := by have := congrArg List.length e1; simpa [pp, pth_len] using this.symm
    have hhas : hasX (sr (ruAt l i)) h.s = true := (hasX_pp ox oh.1).2 (by rw [hj]; exact e1.symm)
    have hin : sr (ruAt l i) ∈ S := (hS.2 _).2 (src_mem hi)
    rw [e1] at b ⊢
    rw [lst_of hs o hS hin b]
    unfold prK prsL
    rw [List.filter_filter]
    refine List.filter_congr fun p hp => ?_
    have hp' := List.mem_range.1 hp
    have o1 := (o.at hp').1
    have o2 := (o.at hp').2
    rw [Bool.eq_iff_iff]
    simp only [Bool.and_eq_true, decide_eq_true_iff, beq_iff_eq]
    constructor
    · rintro ⟨f1, f2⟩
      have hl2 : (ds (ruAt l p)).2 = k := by have := congrArg List.length f1; simpa [pp, pth_len] using this
      exact ⟨hl2, has_of os o1 hhas f2, (hasX_pp (okx_of o2) oh.2.1).2 (by rw [hl2]; exact f1)⟩
    · rintro ⟨f0, f1, f2⟩
      refine ⟨by rw [(hasX_pp (okx_of o2) oh.2.1).1 f2, f0], wit_of os o1 hhas f1 ?_⟩
      apply Classical.byContradiction
      intro hlt
      obtain ⟨n1, n2⟩ := hsp p hp' f1 f2 f0
      exact n1 (d _ (by omega) (by omega))
theorem prK_lt {l : List Ru} {h : Hd} {k p : Nat} (hp : p ∈ prK l h k) : p < l.length := prs_lt (List.mem_filter.1 hp).1
theorem prK_sorted (l : List Ru) (h : Hd) (k : Nat) : (prK l h k).Pairwise (· < ·) := List.Pairwise.filter _ (prs_sorted l h)
theorem prs_prK {l : List Ru} (o : OkA l) {h : Hd} {p : Nat} (hp : p ∈ prsL l h) : ∃ k, k < 33 ∧ p ∈ prK l h k := by
  have := (okx_of (o.at (prs_lt hp)).2).2.1
  exact ⟨(ds (ruAt l p)).2, by omega, List.mem_filter.2 ⟨hp, by simp⟩⟩
/-- All of them are no more than there are. -/
theorem part_le (f : Nat → Nat) (P : List Nat) : ∀ n, (((List.range n).map fun k => P.filter fun p => f p == k).map List.length).sum ≤ (P.filter fun p => decide (f p < n)).length
  | 0 => by simp
  | n + 1 => by
    rw [List.range_succ, List.map_append, List.map_append, List.sum_append]
    have ih := part_le f P n
    have key : (P.filter fun p => decide (f p < n)).length + (P.filter fun p => f p == n).length ≤ (P.filter fun p => decide (f p < n + 1)).length := by
      induction P with
      | nil => simp
      | cons a P ihP =>
        have ih2 := ihP (part_le f P n)
        simp only [List.filter_cons]
        by_cases h1 : f a < n
        · rw [if_pos (by simpa using h1), if_neg (by simpa using (by omega : f a ≠ n)), if_pos (by simpa using (by omega : f a < n + 1))]
          simp only [List.length_cons]; omega
        · by_cases h2 : f a = n
          · rw [if_neg (by simpa using h1), if_pos (by simpa using h2), if_pos (by simpa using (by omega : f a < n + 1))]
            simp only [List.length_cons]; omega
          · rw [if_neg (by simpa using h1), if_neg (by simpa using h2), if_neg (by simpa using (by omega : ¬ f a < n + 1))]
            exact ih2
    simp only [List.map_cons, List.map_nil, List.sum_cons, List.sum_nil]
    omega
theorem prK_sum (l : List Ru) (h : Hd) : (((List.range 33).map (prK l h)).map List.length).sum ≤ (prsL l h).length :=
  Nat.le_trans (part_le (fun p => (ds (ruAt l p)).2) (prsL l h) 33) (List.length_filter_le _ _)
/-- first: one list, all lists: the least place that matches, and how many were held against the header. -/
def fl1 (l : List Ru) (h : Hd) : List Nat → Nat → Nat × Nat
  | [], m => (m, 0)
  | p :: ps, m => if m < p then (m, 0) else if matchR (ruAt l p) h then (p, 1) else ((fl1 l h ps m).1, (fl1 l h ps m).2 + 1)
def flA (l : List Ru) (h : Hd) : List (List Nat) → Nat → Nat × Nat
  | [], m => (m, 0)
  | L :: Ls, m => ((flA l h Ls (fl1 l h L m).1).1, (fl1 l h L m).2 + (flA l h Ls (fl1 l h L m).1).2)
structure FlS (l : List Ru) (h : Hd) (P : Nat → Prop) (n m : Nat) (r : Nat × Nat) : Prop where
  le : r.1 ≤ m
  of : r.1 = m ∨ (P r.1 ∧ matchR (ruAt l r.1) h = true)
  least : ∀ p, P p → matchR (ruAt l p) h = true → r.1 ≤ p
  few : r.2 ≤ n
  one : r.1 ≠ m → 1 ≤ r.2
theorem fl1_ok (l : List Ru) (h : Hd) : ∀ (L : List Nat) (m : Nat), L.Pairwise (· < ·) → FlS l h (fun p => p ∈ L) L.length m (fl1 l h L m)
  | [], m, _ => ⟨Nat.le_refl _, .inl rfl, fun p hp => by simp at hp, Nat.le_refl _, fun e => absurd rfl e⟩
  | p :: ps, m, hp => by
    have hp' := List.pairwise_cons.1 hp
    unfold fl1
    by_cases e1 : m < p
    · rw [if_pos e1]
      refine ⟨Nat.le_refl _, .inl rfl, fun q hq _ => ?_, Nat.zero_le _, fun e => absurd rfl e⟩
      rcases List.mem_cons.1 hq with rfl | hq
      · exact Nat.le_of_lt e1
      · exact Nat.le_of_lt (Nat.lt_trans e1 (hp'.1 q hq))
    · rw [if_neg e1]
      by_cases e2 : matchR (ruAt l p) h = true
      · rw [if_pos e2]
        refine ⟨by omega, .inr ⟨List.mem_cons_self .., e2⟩, fun q hq _ => ?_, by simp, fun _ => Nat.le_refl _⟩
        rcases List.mem_cons.1 hq with rfl | hq
        · exact Nat.le_refl _
        · exact Nat.le_of_lt (hp'.1 q hq)
      · rw [if_neg e2]
        have ih := fl1_ok l h ps m hp'.2
        refine ⟨ih.le, ih.of.imp id fun e => ⟨List.mem_cons_of_mem _ e.1, e.2⟩, fun q hq hm => ?_, ?_, fun _ => by omega⟩
        · rcases List.mem_cons.1 hq with rfl | hq
          · exact absurd hm e2
          · exact ih.least q hq hm
        · have := ih.few; simp only [List.length_cons]; omega
theorem flA_ok (l : List Ru) (h : Hd) : ∀ (Ls : List (List Nat)) (m : Nat), (∀ L ∈ Ls, L.Pairwise (· < ·)) → FlS l h (fun p => ∃ L ∈ Ls, p ∈ L) (Ls.map List.length).sum m (flA l h Ls m)
  | [], m, _ => ⟨Nat.le_refl _, .inl rfl, fun p hp => by simp at hp, Nat.le_refl _, fun e => absurd rfl e⟩
  | L :: Ls, m, hL => by
    have h1 := fl1_ok l h L m (hL L (List.mem_cons_self ..))
    have h2 := flA_ok l h Ls (fl1 l h L m).1 fun L' h' => hL L' (List.mem_cons_of_mem _ h')
    unfold flA
    refine ⟨Nat.le_trans h2.le h1.le, ?_, fun p hp hm => ?_, ?_, fun hne => ?_⟩
    · rcases h2.of with e | ⟨⟨L', a, b⟩, c⟩
      · rcases h1.of with f | ⟨f1, f2⟩
        · exact .inl (e.trans f)
        · rw [e]; exact .inr ⟨⟨L, List.mem_cons_self .., f1⟩, f2⟩
      · exact .inr ⟨⟨L', List.mem_cons_of_mem _ a, b⟩, c⟩
    · obtain ⟨L', a, b⟩ := hp
      rcases List.mem_cons.1 a with rfl | a
      · exact Nat.le_trans h2.le (h1.least p b hm)
      · exact h2.least p ⟨L', a, b⟩ hm
    · have := h1.few; have := h2.few
      simp only [List.map_cons, List.sum_cons]; omega
    · by_cases e : (fl1 l h L m).1 = m
      · have := h2.one (fun e' => hne (e'.trans e)); omega
      · have := h1.one e; omega
/-- The first match. -/
theorem flA_mat {l : List Ru} (o : OkA l) {h : Hd} {Ls : List (List Nat)} (hl : l.length ≤ 64) (hL : ∀ L ∈ Ls, L.Pairwise (· < ·)) (hp : ∀ p, (∃ L ∈ Ls, p ∈ L) ↔ p ∈ prsL l h) :
    ((flA l h Ls 64).1 = 64 ∧ mat l h = -1) ∨ ((flA l h Ls 64).1 < l.length ∧ mat l h = (((flA l h Ls 64).1 : Nat) : Int) ∧ 1 ≤ (flA l h Ls 64).2) := by
  have H := flA_ok l h Ls 64 hL
  by_cases e : (flA l h Ls 64).1 = 64
  · refine .inl ⟨e, mat_prs_none o fun i hi => ?_⟩
    rw [Bool.eq_false_iff]
    intro hm
    have := H.least i ((hp i).2 hi) hm
    have := prs_lt hi
    omega
  · obtain ⟨a, b⟩ := H.of.resolve_left e
    have hin := (hp _).1 a
    refine .inr ⟨prs_lt hin, ?_, H.one e⟩
    obtain ⟨k, hk, ek⟩ := List.mem_iff_getElem.1 hin
    have := mat_prs_at o hk (fun j hj => by
      rw [Bool.eq_false_iff]
      intro hm
      have h1 := H.least _ ((hp _).2 (List.getElem_mem (by omega : j < (prsL l h).length))) hm
      have h2 := (List.pairwise_iff_getElem.1 (prs_sorted l h)) j k (by omega) hk hj
      omega) (by rw [ek]; exact b)
    rw [this, ek]
end Go.Proofs.YtgidohnikggjfaaGreat
