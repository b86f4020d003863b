/-
  PnGB: NqQ NqK NqS NqT NqV, one behind the other (tools/merge.py).
-/
import Derived.Test.YtcpcljdnkekogaaNqO
import Derived.Test.YtcpcljdnkekogaaTbRc
import Derived.Test.YtcpcljdnkekogaaNsPm
/-
  nest's check, sources, targets, held, Prune, Grid and Pairs. Written by tools/mkNsQ.py.
-/
namespace Go.Proofs.Ytcpcljdnkekogaa
open Go.RowKit
set_option linter.unusedVariables false
set_option linter.unusedSimpArgs false

theorem rngU {w : World} {ad : Option Addr} {n cap : Nat} {l : List Ru} (h : SrcU w (.slice ad n cap) l) : n = l.length ∧ (∀ W, Below w.heap.size w W → ∀ k (hk : k < l.length), ∃ g off, ad = some ⟨g, off, none⟩ ∧ ∀ j u, (encU (l[k]'hk))[j]? = some u → W.cell? ⟨g, off + k * 12 + j, none⟩ = some u) := by
  obtain ⟨ad', cap', e, hc, h2⟩ := h
  obtain ⟨rfl, e2, rfl⟩ : ad = ad' ∧ n = l.length ∧ cap = cap' := by cases e; exact ⟨rfl, rfl, rfl⟩
  refine ⟨e2, fun W hb k hk => ?_⟩
  obtain ⟨g, off, e, h3⟩ := h2 (by omega)
  refine ⟨g, off, e, fun j u hu => ?_⟩
  have hj : j < 12 := by
    have := (List.getElem?_eq_some_iff.1 hu).1
    simpa [encU] using this
  have := h3 k hk j hj
  rw [show off + k * 12 + j = off + (k * 12 + j) by omega]
  exact cell_on1 hb (this.trans hu)
theorem only_above {w w1 w2 : World} {o : Obj} (h : Below w.heap.size w w1) (ho : Only w1.heap.size (w1.alloc o) w2) : Below w.heap.size w w2 ∧ Below w1.heap.size w1 w2 := by
  have hb : Below w1.heap.size w1 w2 := ((Below.refl _ _).alloc (Nat.le_refl _) _).trans (ho.below (Nat.le_refl _))
  exact ⟨h.trans (hb.mono h.size), hb⟩
/-- How many rules match by their prefixes. -/
def prsB (h : Hd) (R : Ru) : Bool := okR R && (Pf.hasB R.s R.sl h.s && Pf.hasB R.d R.dl h.d)
def prsN (l : List Ru) (h : Hd) : Nat := l.countP (prsB h)
theorem prs_step {l : List Ru} {h : Hd} {k : Nat} (hk : k < l.length) : ((l.take (k + 1)).countP (prsB h)) = (l.take k).countP (prsB h) + if prsB h l[k] then 1 else 0 := by
  rw [take_at hk, List.countP_append, List.countP_singleton]
end Go.Proofs.Ytcpcljdnkekogaa
/-
  nest's check. Written by tools/mkNsK.py.
-/
namespace Go.Proofs.Ytcpcljdnkekogaa
open Go.RowKit
set_option linter.unusedVariables false
set_option linter.unusedSimpArgs false


set_option maxRecDepth 20000 in
set_option maxHeartbeats 2000000 in
theorem nIdC (x : Int) (R : Ru) (B : Nat) (w : World) (hB : w.cell? ⟨B, 0, none⟩ = some (.int .i64 x)) :
    Calls Try.prog 66 #[.agg #[.int .i64 R.i, .int .u32 (R.s : Int), .int .i64 R.sl, .int .u32 (R.d : Int), .int .i64 R.dl, .int .u16 (R.p.1 : Int), .int .u16 (R.p.2 : Int), .int .u16 (R.q.1 : Int), .int .u16 (R.q.2 : Int), .int .u8 (R.m.1 : Int), .int .u8 (R.m.2 : Int), .int .i64 R.act], .pointer (some ⟨B, 0, none⟩)] w fun e w' => e = .returned (.bool (decide (R.i = x))) ∧ Below w.heap.size w w' := by
  have hB2 := fun o => cell_on1 ((Below.refl _ w).alloc (Nat.le_refl _) o) hB
  obtain ⟨b, hb⟩ : ∃ b, b = decide (R.i = x) := ⟨_, rfl⟩
  have hb' : (R.i == x) = b := by rw [hb]; rfl
  rw [← hb]
  have hlt := World.block_lt_of_cell? w _ hB
  have hne : ¬ B = w.heap.size := by simp at hlt; omega
  clear hb
  go_enter Try.func66, Try.ntmps66
  go_wp2
  go_ret
  exact ⟨by simp [← hb'], (Below.refl _ _).alloc (Nat.le_refl _) _⟩
set_option maxRecDepth 20000 in
set_option maxHeartbeats 8000000 in
theorem nIndexC (v : Value) (l : List Ru) (x : Int) (B : Nat) (w : World) (hs : SrcU w v l) (hB : w.cell? ⟨B, 0, none⟩ = some (.int .i64 x)) (hl : l.length ≤ 200000) :
    Calls Try.prog 63 #[v, .func (.func 66) #[] #[.pointer (some ⟨B, 0, none⟩)]] w fun e w' => e = .returned (.int .i64 (fnd l x)) ∧ Below w.heap.size w w' := by
  obtain ⟨ad, cap, rfl, hcap, hat⟩ := hs
  obtain ⟨A, hA⟩ : ∃ A, A = fnd l x := ⟨_, rfl⟩
  rw [← hA]
  have HA : Hid (A = fndK x (l.drop 0) 0) := hA
  clear hA
  obtain ⟨n, hn⟩ : ∃ n, n = l.length := ⟨_, rfl⟩
  have Hn : Hid (n = l.length) := hn
  have HAt : Hid (∀ (W : World), Below w.heap.size w W → ∀ k (hk : k < l.length), ∃ g off, ad = some ⟨g, off, none⟩ ∧ g < W.heap.size ∧ ∀ j, j < 12 → W.cell? ⟨g, off + (k * 12 + j), none⟩ = (encU (l[k]'hk))[j]?) := fun W hb k hk => by
    obtain ⟨g, off, e, h3⟩ := hat (by omega)
    have h0 := h3 k hk 0 (by decide)
    have hg : g < w.heap.size := World.block_lt_of_cell? w _ (h0.trans rfl)
    exact ⟨g, off, e, by have := hb.size; omega, fun j hj => by
      have := h3 k hk j hj
      obtain ⟨u, hu⟩ := encU_some (l[k]'hk) hj
      rw [hb.cell (p := ⟨g, off + (k * 12 + j), none⟩) hg]; exact this⟩
  have HI : Hid (∀ (W : World) (R : Ru), Below w.heap.size w W → Calls Try.prog 66 #[.agg #[.int .i64 R.i, .int .u32 (R.s : Int), .int .i64 R.sl, .int .u32 (R.d : Int), .int .i64 R.dl, .int .u16 (R.p.1 : Int), .int .u16 (R.p.2 : Int), .int .u16 (R.q.1 : Int), .int .u16 (R.q.2 : Int), .int .u8 (R.m.1 : Int), .int .u8 (R.m.2 : Int), .int .i64 R.act], .pointer (some ⟨B, 0, none⟩)] W fun e w' => e = .returned (.bool (decide (R.i = x))) ∧ Below W.heap.size W w') := fun W R hb => nIdC x R B W (cell_on1 hb hB)
  rw [← hn] at hl hcap ⊢
  have hn0 : (n : Int) ≤ 200000 := by omega
  clear hn hat hB
  go_enter Try.func63, Try.ntmps63
  go_wp2_with (fail)
  go_loopw [8] (fun i wr => ∃ k : Nat, k ≤ n ∧ i = .int .i64 (k : Int) ∧ Hid (Below w.heap.size w wr) ∧ Hid (A = fndK x (l.drop k) k)) (fun i _ => n - (intOf i).toNat)
  case atStart => exact ⟨0, Nat.zero_le _, rfl, Below.refl _ _, HA.out⟩
  case round =>
    obtain ⟨k, hk, rfl, HB, HK⟩ := hrel
    by_cases hlt : k < n
    · have hkl : k < l.length := by rw [← Hn.out]; exact hlt
      obtain ⟨g, off, rfl, hg, hc⟩ := HAt.out wr HB.out k hkl
      obtain ⟨p, hp⟩ : ∃ p, p = l[k]'hkl := ⟨_, rfl⟩
      rw [← hp] at hc
      have x0 : wr.cell? ⟨g, off + k * 12, none⟩ = some (.int .i64 p.i) := hc 0 (by decide)
      have x1 : wr.cell? ⟨g, off + k * 12 + 1, none⟩ = some (.int .u32 (p.s : Int)) := hc 1 (by decide)
      have x2 : wr.cell? ⟨g, off + k * 12 + 2, none⟩ = some (.int .i64 p.sl) := hc 2 (by decide)
      have x3 : wr.cell? ⟨g, off + k * 12 + 3, none⟩ = some (.int .u32 (p.d : Int)) := hc 3 (by decide)
      have x4 : wr.cell? ⟨g, off + k * 12 + 4, none⟩ = some (.int .i64 p.dl) := hc 4 (by decide)
      have x5 : wr.cell? ⟨g, off + k * 12 + 5, none⟩ = some (.int .u16 (p.p.1 : Int)) := hc 5 (by decide)
      have x6 : wr.cell? ⟨g, off + k * 12 + 6, none⟩ = some (.int .u16 (p.p.2 : Int)) := hc 6 (by decide)
      have x7 : wr.cell? ⟨g, off + k * 12 + 7, none⟩ = some (.int .u16 (p.q.1 : Int)) := hc 7 (by decide)
      have x8 : wr.cell? ⟨g, off + k * 12 + 8, none⟩ = some (.int .u16 (p.q.2 : Int)) := hc 8 (by decide)
      have x9 : wr.cell? ⟨g, off + k * 12 + 9, none⟩ = some (.int .u8 (p.m.1 : Int)) := hc 9 (by decide)
      have x10 : wr.cell? ⟨g, off + k * 12 + 10, none⟩ = some (.int .u8 (p.m.2 : Int)) := hc 10 (by decide)
      have x11 : wr.cell? ⟨g, off + k * 12 + 11, none⟩ = some (.int .i64 p.act) := hc 11 (by decide)
      have hlt' : (k : Int) < (n : Int) := by omega
      have hI := HI.out wr p HB.out
      clear hc HI
      by_cases hx : p.i = x
      · have HV : Hid (A = (k : Int)) := HK.out.trans (fndK_hit hkl (by rw [← hp]; exact hx))
        rw [decide_eq_true hx] at hI
        clear hp hx HK HA HAt
        go_wp2_with (fail)
        refine hI.mono ?_
        rintro e w1 ⟨rfl, hb1⟩
        have HB1 : Hid (Below w.heap.size w w1) := HB.out.trans (hb1.mono HB.out.size)
        clear hb1 x0 x1 x2 x3 x4 x5 x6 x7 x8 x9 x10 x11
        go_wp2_with (fail)
        go_ret
        exact ⟨ret_int HV.out.symm, HB1.out⟩
      · have HK2 : Hid (A = fndK x (l.drop (k + 1)) (k + 1)) := HK.out.trans (fndK_no hkl (by rw [← hp]; exact hx))
        rw [decide_eq_false hx] at hI
        clear hp hx HK HA HAt hkl
        go_wp2_with (fail)
        refine hI.mono ?_
        rintro e w1 ⟨rfl, hb1⟩
        have HB1 : Hid (Below w.heap.size w w1) := HB.out.trans (hb1.mono HB.out.size)
        clear hb1 x0 x1 x2 x3 x4 x5 x6 x7 x8 x9 x10 x11
        go_wp2_with (fail)
        go_roundw
        case rel => exact ⟨k + 1, by omega, by go_num, HB1.out, HK2.out⟩
        case measure => simp [intOf]; omega
    · obtain rfl : k = n := by omega
      have HV : Hid (A = -1) := HK.out.trans (fndK_end (by rw [← Hn.out]; exact Nat.le_refl _))
      clear HK HA HAt HI
      go_wp2_with (fail)
      go_ret
      exact ⟨ret_int HV.out.symm, HB.out⟩

theorem containsC (v : Value) (l : List Ru) (x : Int) (B : Nat) (w : World) (hs : SrcU w v l) (hB : w.cell? ⟨B, 0, none⟩ = some (.int .i64 x)) (hl : l.length ≤ 200000) :
    Calls Try.prog 65 #[v, .func (.func 66) #[] #[.pointer (some ⟨B, 0, none⟩)]] w fun e w' => e = .returned (.bool (decide (0 ≤ fnd l x))) ∧ Below w.heap.size w w' := by
  have hI := nIndexC v l x B w hs hB hl
  generalize fnd l x = F at *
  clear hs
  go_enter Try.func65, Try.ntmps65
  go_wp2_with (go_at_call 63; fail)
  refine hI.mono ?_
  rintro e w1 ⟨rfl, hb1⟩
  have HB1 : Hid (Below w.heap.size w w1) := hb1
  clear hb1 hI
  go_wp2
  go_ret
  exact ⟨rfl, HB1.out⟩
theorem nCutH (w : World) (ad : Option Addr) (n cap h : Nat) (h2 : h ≤ cap) : (Instr.sliceAt 22 (.slice ad n cap) none (some (.int .i64 (h : Int))) none).run Try.prog w = .ok (.slice ad h cap) w := by
  rw [run_cut_h w ad n cap h h2, cutU_zero]
set_option maxRecDepth 20000 in
set_option maxHeartbeats 4000000 in
theorem checkLC (l : List Ru) (v : Value) (w : World) (hs : SrcU w v l) (hl : l.length ≤ 16777216) (hb : ∀ R ∈ l, BdR R) :
    Calls Try.prog 43 #[v] w fun e w' => e = .returned (.int .i64 (setE l 64)) ∧ Below w.heap.size w w' := by
  have HS : Hid (SrcU w v l) := hs
  have HBd : Hid (∀ R ∈ l, BdR R) := hb
  obtain ⟨ad, cap, rfl, hcp, _⟩ := hs
  have Hcap : Hid (l.length ≤ cap) := hcp.1
  obtain ⟨n, hn⟩ : ∃ n, n = l.length := ⟨_, rfl⟩
  rw [← hn] at HS hl Hcap ⊢
  have Hn : Hid (n = l.length) := hn
  obtain ⟨A, hA⟩ : ∃ A, A = setE l 64 := ⟨_, rfl⟩
  have HA : Hid (A = setK 64 (l.take 0) (l.drop 0)) := hA
  rw [← hA]
  clear hn hb hcp hA
  go_enter Try.func43, Try.ntmps43
  go_wp2_with (fail)
  go_loopw [9] (fun vi wr => ∃ k : Nat, k ≤ n ∧ k ≤ 64 ∧ vi = .int .i64 (k : Int) ∧ Hid (A = setK 64 (l.take k) (l.drop k)) ∧ Hid (Below w.heap.size w wr)) (fun vi _ => n - (intOf vi).toNat)
  case atStart => exact ⟨0, Nat.zero_le _, Nat.zero_le _, rfl, HA.out, Below.refl _ _⟩
  case round =>
    obtain ⟨k, hk, hk64, rfl, HK, HB⟩ := hrel
    clear HA
    by_cases hlt : k < n
    · have hlt' : k < l.length := by rw [← Hn.out]; exact hlt
      have hlti : (k : Int) < (n : Int) := by omega
      obtain ⟨g, off, rfl, hrg⟩ := (rngU HS.out).2 wr HB.out k hlt'
      have hbd := HBd.out _ (List.getElem_mem hlt')
      have hbad := fun e => setK_bad (l := l) (M := 64) hlt' e
      have hful := fun e h => setK_full (l := l) (M := 64) hlt' e h
      have hnxt := fun e h => setK_next (l := l) (M := 64) hlt' e h
      obtain ⟨p, hp⟩ : ∃ p, p = l[k] := ⟨_, rfl⟩
      rw [← hp] at hrg hbd hbad hful hnxt
      have HK2 : Hid (∀ q, q = l[k] → True) := fun _ _ => trivial
      clear hp
      have x0 : wr.cell? ⟨g, off + k * 12, none⟩ = some (.int .i64 p.i) := hrg 0 _ rfl
      have x1 : wr.cell? ⟨g, off + k * 12 + 1, none⟩ = some (.int .u32 (p.s : Int)) := hrg 1 _ rfl
      have x2 : wr.cell? ⟨g, off + k * 12 + 2, none⟩ = some (.int .i64 p.sl) := hrg 2 _ rfl
      have x3 : wr.cell? ⟨g, off + k * 12 + 3, none⟩ = some (.int .u32 (p.d : Int)) := hrg 3 _ rfl
      have x4 : wr.cell? ⟨g, off + k * 12 + 4, none⟩ = some (.int .i64 p.dl) := hrg 4 _ rfl
      have x5 : wr.cell? ⟨g, off + k * 12 + 5, none⟩ = some (.int .u16 (p.p.1 : Int)) := hrg 5 _ rfl
      have x6 : wr.cell? ⟨g, off + k * 12 + 6, none⟩ = some (.int .u16 (p.p.2 : Int)) := hrg 6 _ rfl
      have x7 : wr.cell? ⟨g, off + k * 12 + 7, none⟩ = some (.int .u16 (p.q.1 : Int)) := hrg 7 _ rfl
      have x8 : wr.cell? ⟨g, off + k * 12 + 8, none⟩ = some (.int .u16 (p.q.2 : Int)) := hrg 8 _ rfl
      have x9 : wr.cell? ⟨g, off + k * 12 + 9, none⟩ = some (.int .u8 (p.m.1 : Int)) := hrg 9 _ rfl
      have x10 : wr.cell? ⟨g, off + k * 12 + 10, none⟩ = some (.int .u8 (p.m.2 : Int)) := hrg 10 _ rfl
      have x11 : wr.cell? ⟨g, off + k * 12 + 11, none⟩ = some (.int .i64 p.act) := hrg 11 _ rfl
      have hC := fun W => checkRC p W hbd
      have HX : Hid ((wr.alloc (.cells #[.int .i64 p.i, .int .u32 (p.s : Int), .int .i64 p.sl, .int .u32 (p.d : Int), .int .i64 p.dl, .int .u16 (p.p.1 : Int), .int .u16 (p.p.2 : Int), .int .u16 (p.q.1 : Int), .int .u16 (p.q.2 : Int), .int .u8 (p.m.1 : Int), .int .u8 (p.m.2 : Int), .int .i64 p.act] 46)).heap[wr.heap.size]? = some (.cells #[.int .i64 p.i, .int .u32 (p.s : Int), .int .i64 p.sl, .int .u32 (p.d : Int), .int .i64 p.dl, .int .u16 (p.p.1 : Int), .int .u16 (p.p.2 : Int), .int .u16 (p.q.1 : Int), .int .u16 (p.q.2 : Int), .int .u8 (p.m.1 : Int), .int .u8 (p.m.2 : Int), .int .i64 p.act] 46 (0, 0))) := blk_new wr _
      have HB2 : Hid (Below w.heap.size w (wr.alloc (.cells #[.int .i64 p.i, .int .u32 (p.s : Int), .int .i64 p.sl, .int .u32 (p.d : Int), .int .i64 p.dl, .int .u16 (p.p.1 : Int), .int .u16 (p.p.2 : Int), .int .u16 (p.q.1 : Int), .int .u16 (p.q.2 : Int), .int .u8 (p.m.1 : Int), .int .u8 (p.m.2 : Int), .int .i64 p.act] 46))) := HB.out.alloc HB.out.size _
      have Hbad : Hid _ := hbad
      have Hful : Hid _ := hful
      have Hnxt : Hid _ := hnxt
      clear hrg hbd hbad hful hnxt
      go_wp2_with (go_at_call 41; fail)
      clear x0 x1 x2 x3 x4 x5 x6 x7 x8 x9 x10 x11
      refine (hC _).mono ?_
      rintro e w3 ⟨rfl, hb3⟩
      have HX3 : Hid (w3.heap[wr.heap.size]? = some (.cells #[.int .i64 p.i, .int .u32 (p.s : Int), .int .i64 p.sl, .int .u32 (p.d : Int), .int .i64 p.dl, .int .u16 (p.p.1 : Int), .int .u16 (p.p.2 : Int), .int .u16 (p.q.1 : Int), .int .u16 (p.q.2 : Int), .int .u8 (p.m.1 : Int), .int .u8 (p.m.2 : Int), .int .i64 p.act] 46 (0, 0))) := blk_on HX.out hb3
      have HB3 : Hid (Below w.heap.size w w3) := bel_of HB2.out hb3 HB2.out.size
      clear hb3 hC HX HB2
      cases hok : okR p with
      | false =>
        have hne := errs_no hok
        have hj : joinE (l.take k) p = (errs p).1 := by unfold joinE; rw [if_neg hne]
        have HV : Hid (A = (errs p).1) := by
          show A = (errs p).1
          rw [HK.out, Hbad.out (by rw [hj]; exact hne), hj]
        have hne' : ((errs p).1 != 0) = true := by simpa using hne
        clear hj hok hne
        generalize (errs p).1 = E1 at *
        generalize (errs p).2 = E2 at *
        go_wp2_with (fail)
        go_ret
        exact ⟨ret_int HV.out.symm, HB3.out⟩
      | true =>
        rw [errs_ok hok]
        have he0 : (errs p).1 = 0 := by rw [errs_ok hok]
        have hj : joinE (l.take k) p = if 0 ≤ fnd (l.take k) p.i then 111 else 0 := by unfold joinE; rw [if_pos he0]
        have hT := containsC (.slice (some ⟨g, off, none⟩) k cap) (l.take k) p.i wr.heap.size w3 (by
          have := (HS.out.keep HB3.out).cut 0 k (Nat.zero_le _) (by rw [← Hn.out]; exact hk)
          rw [cutU_zero, List.drop_zero] at this
          exact this) (blk_cell HX3.out rfl) (by rw [List.length_take]; omega)
        have hcut := fun W => nCutH W (some ⟨g, off, none⟩) n cap k (by have := Hcap.out; omega)
        clear hok he0
        by_cases hf : 0 ≤ fnd (l.take k) p.i
        · have HV : Hid (A = 111) := by
            show A = 111
            rw [if_pos hf] at hj
            rw [HK.out, Hbad.out (by rw [hj]; decide), hj]
          rw [decide_eq_true hf] at hT
          clear hj hf
          go_wp2_with (go_at_call 65; refine hT.mono ?_; rintro e w4 ⟨rfl, hb4⟩)
          have HB4 : Hid (Below w.heap.size w w4) := bel_of HB3.out (by assumption) HB3.out.size
          go_ret
          exact ⟨ret_int HV.out.symm, HB4.out⟩
        · rw [if_neg hf] at hj
          rw [decide_eq_false hf] at hT
          have Hj : Hid (joinE (l.take k) p = 0) := hj
          clear hj hf
          by_cases h64 : k = 64
          · have HV : Hid (A = 113) := by
              show A = 113
              rw [HK.out, Hful.out Hj.out (by omega)]
            have h64i : (64 : Int) ≤ (k : Int) := by omega
            clear h64
            go_wp2_with (go_at_call 65; refine hT.mono ?_; rintro e w4 ⟨rfl, hb4⟩)
            have HB4 : Hid (Below w.heap.size w w4) := bel_of HB3.out (by assumption) HB3.out.size
            go_ret
            exact ⟨ret_int HV.out.symm, HB4.out⟩
          · have HK3 : Hid (A = setK 64 (l.take (k + 1)) (l.drop (k + 1))) := by
              show A = setK 64 (l.take (k + 1)) (l.drop (k + 1))
              rw [HK.out, Hnxt.out Hj.out (by omega)]
            have h64i : ¬ (64 : Int) ≤ (k : Int) := by omega
            go_wp2_with (go_at_call 65; refine hT.mono ?_; rintro e w4 ⟨rfl, hb4⟩)
            have HB4 : Hid (Below w.heap.size w w4) := bel_of HB3.out (by assumption) HB3.out.size
            go_roundw
            case rel => exact ⟨k + 1, by omega, by omega, by go_num, HK3.out, HB4.out⟩
            case measure => simp [intOf]; omega
    · obtain rfl : k = n := by omega
      have hni : ¬ (k : Int) < (k : Int) := by omega
      have HV : Hid (A = 0) := by
        show A = 0
        rw [HK.out, setK_end (by rw [← Hn.out]; exact Nat.le_refl _)]
      go_wp2
      go_ret
      exact ⟨ret_int HV.out.symm, HB.out⟩
end Go.Proofs.Ytcpcljdnkekogaa
/-
  nest's sources, targets, held, Grid and Prune. Written by tools/mkNsK.py.
-/
namespace Go.Proofs.Ytcpcljdnkekogaa
open Go.RowKit
set_option linter.unusedVariables false
set_option linter.unusedSimpArgs false


def ruZ0 : Ru := ⟨0, 0, 0, 0, 0, (0, 0), (0, 0), (0, 0), 0⟩
/-- The prefixes of a rule that may be. -/
def sr (R : Ru) : Nat × Nat := (R.s, R.sl.toNat)
def ds (R : Ru) : Nat × Nat := (R.d, R.dl.toNat)
/-- Prefixes that may be. -/
def OkX (x : Nat × Nat) : Prop := x.1 < 4294967296 ∧ Pf.chk x.1 (x.2 : Int) = 0
def witX (a b : Nat × Nat) : Bool := Pf.witB a.1 (a.2 : Int) b.1 (b.2 : Int)
theorem witX_self {a : Nat × Nat} (h : OkX a) : witX a a = true := by
  unfold witX Pf.witB Pf.hasB
  obtain ⟨m, e, _, hm⟩ := Pf.chk_ok h.2
  have e' : a.2 = m := by omega
  simp only [h.2, decide_eq_true_eq, true_and]
  refine ⟨Int.le_refl _, ?_⟩
  rw [e']
  simpa using Pf.ct_self _ _ hm
theorem okR_sr {R : Ru} (h : okR R = true) (b : BdR R) : OkX (sr R) ∧ R.sl = ((sr R).2 : Int) ∧ OkX (ds R) ∧ R.dl = ((ds R).2 : Int) := by
  obtain ⟨_, h1, h2, _⟩ := (okR_iff R).1 h
  obtain ⟨m, e, _, _⟩ := Pf.chk_ok h1
  obtain ⟨m', e', _, _⟩ := Pf.chk_ok h2
  have q1 : R.sl = (R.sl.toNat : Int) := by omega
  have q2 : R.dl = (R.dl.toNat : Int) := by omega
  exact ⟨⟨b.1, by show Pf.chk R.s (R.sl.toNat : Int) = 0; rw [← q1]; exact h1⟩, q1, ⟨b.2.1, by show Pf.chk R.d (R.dl.toNat : Int) = 0; rw [← q2]; exact h2⟩, q2⟩
theorem withinX (a b : Nat × Nat) (w : World) (ha : a.1 < 4294967296) (hb : b.1 < 4294967296) :
    Calls Try.prog 71 #[.agg #[.int .u32 (a.1), .int .i64 (a.2)], .agg #[.int .u32 (b.1), .int .i64 (b.2)]] w fun e w' => e = .returned (.bool (witX a b)) ∧ Below w.heap.size w w' := Pf.within_any a.1 a.2 b.1 b.2 w ha hb
/-- A row of prefixes that is filled in. -/
def uptoX (f : Nat → Nat × Nat) (i n : Nat) : List (Nat × Nat) := (List.range n).map fun k => if k < i then f k else (0, 0)
theorem uptoX_len (f : Nat → Nat × Nat) (i n : Nat) : (uptoX f i n).length = n := by simp [uptoX]
theorem uptoX_set (f : Nat → Nat × Nat) {i n : Nat} (hi : i < n) : (uptoX f i n).take i ++ [f i] ++ (uptoX f i n).drop (i + [f i].length) = uptoX f (i + 1) n := by
  have e : (uptoX f i n).take i ++ [f i] ++ (uptoX f i n).drop (i + [f i].length) = (uptoX f i n).set i (f i) := by
    rw [List.set_eq_take_append_cons_drop, if_pos (by rw [uptoX_len]; exact hi)]; simp
  rw [e]
  apply List.ext_getElem
  · simp [uptoX]
  · intro k h1 h2
    rw [List.getElem_set]
    simp only [uptoX, List.getElem_map, List.getElem_range]
    by_cases e : i = k
    · subst e; simp
    · rw [if_neg e]
      by_cases h : k < i
      · rw [if_pos h, if_pos (by omega)]
      · rw [if_neg h, if_neg (by omega)]
theorem uptoX_zero (f : Nat → Nat × Nat) (n : Nat) : uptoX f 0 n = List.replicate n (0, 0) := by
  apply List.ext_getElem
  · simp [uptoX]
  · intro k h1 h2; simp [uptoX]
theorem uptoX_all {g : Ru → Nat × Nat} {l : List Ru} {f : Nat → Nat × Nat} (hf : ∀ k (hk : k < l.length), f k = g l[k]) : uptoX f l.length l.length = l.map g := by
  apply List.ext_getElem
  · simp [uptoX]
  · intro k h1 h2
    have hk : k < l.length := by simpa [uptoX] using h1
    simp [uptoX, hk, hf k hk]
theorem made_X (z : Array Value) (n : Nat) (hz : z = #[.int .u32 0, .int .i64 0]) : madeCells z (n * 2) = (flatX (List.replicate n (0, 0))).toArray := by
  subst hz
  apply Array.toList_inj.1
  apply List.ext_getElem
  · rw [Array.length_toList, size_madeCells]; simp [flatX_length]
  · intro k h1 h2
    have hk : k < n * 2 := by rw [Array.length_toList, size_madeCells] at h1; exact h1
    have f := flatX_at (List.replicate n (0, 0)) (k / 2) (by simp; omega) (k % 2) (by omega)
    rw [show k / 2 * 2 + k % 2 = k by omega] at f
    have h2' : k < (flatX (List.replicate n (0, 0))).length := by simpa using h2
    rw [List.getElem?_eq_getElem h2'] at f
    have hr : (madeCells #[Value.int .u32 0, .int .i64 0] (n * 2)).toList[k] = (encX (0, 0))[k % 2]'(by simp [encX]; omega) := by
      simp only [madeCells, Array.getElem_toList, Array.getElem_map, Array.getElem_range]
      have : k % 2 = 0 ∨ k % 2 = 1 := by omega
      rcases this with e | e <;> simp [e, encX]
    rw [hr]
    have e2 : (flatX (List.replicate n (0, 0))).toArray.toList[k] = (flatX (List.replicate n (0, 0)))[k] := by simp
    rw [e2]
    have e3 : (List.replicate n ((0, 0) : Nat × Nat))[k / 2]'(by simp; omega) = (0, 0) := by simp
    rw [e3] at f
    rw [List.getElem?_eq_getElem (by simp [encX]; omega)] at f
    injection f with f
    exact f.symm
theorem rowX_new {w : World} {b g n : Nat} (h : w.heap[g]? = some (.cells (flatX (List.replicate n (0, 0))).toArray 39 (0, 0))) (hb : b ≤ g) (hn : n ≤ 16777216) : RowX w b (.slice (some ⟨g, 0, none⟩) n n) (List.replicate n (0, 0)) := by
  refine ⟨flatX_length _, .inr ⟨g, n, _, by simp, hb, h, by simp, by unfold maxLen; omega, by simp [flatX_length], ?_⟩⟩
  rw [List.take_of_length_le (by simp [flatX_length])]
set_option maxRecDepth 20000 in
set_option maxHeartbeats 4000000 in
theorem sourcesC (l : List Ru) (v : Value) (w : World) (hs : SrcU w v l) (hl : l.length ≤ 64) (hb : ∀ R ∈ l, BdR R ∧ okR R = true) :
    Calls Try.prog 45 #[v] w fun e w' => ∃ v' : Value, e = .returned v' ∧ RowX w' w.heap.size v' (l.map sr) ∧ Below w.heap.size w w' := by
  have HS : Hid (SrcU w v l) := hs
  have HBd : Hid (∀ R ∈ l, BdR R ∧ okR R = true) := hb
  obtain ⟨ad, cap, rfl, hcp, _⟩ := hs
  obtain ⟨n, hn⟩ : ∃ n, n = l.length := ⟨_, rfl⟩
  rw [← hn] at HS hl ⊢
  have Hn : Hid (n = l.length) := hn
  clear hn hb hcp
  obtain ⟨i0, hi, hz0, hz1, hz2⟩ := info_parts infoX
  have hmk := fun W => run_make (P := Try.prog) W 107 39 i0 _ Try.underlying107 hi hz0 .i64 .i64 (n : Int) (n : Int) (by omega) (Int.le_refl _) (by rw [hz2]; omega) (by omega)
  simp only [hz1, Int.toNat_natCast, Value.cells, made_X _ _ rfl] at hmk
  obtain ⟨F, hF⟩ : ∃ F, F = (flatX (List.replicate n (0, 0))).toArray := ⟨_, rfl⟩
  rw [← hF] at hmk
  have HR0 : Hid (RowX (w.alloc (.cells F 39)) w.heap.size (.slice (some ⟨w.heap.size, 0, none⟩) n n) (uptoX (fun k => sr (l.getD k ruZ0)) 0 n)) := by
    rw [uptoX_zero]; exact rowX_new (by rw [← hF]; exact blk_new w _) (Nat.le_refl _) (by omega)
  have HB0 : Hid (Below w.heap.size w (w.alloc (.cells F 39))) := (Below.refl _ _).alloc (Nat.le_refl _) _
  clear hi hz0 hz1 hz2 hF
  have hmk2 := hmk w
  clear hmk
  go_enter Try.func45, Try.ntmps45
  go_wp2_with (fail)
  generalize w.alloc (.cells F 39) = w1 at *
  clear hmk2
  go_loopw [11] (fun vi wr => ∃ k : Nat, k ≤ n ∧ vi = .int .i64 (k : Int) ∧ Hid (RowX wr w.heap.size (.slice (some ⟨w.heap.size, 0, none⟩) n n) (uptoX (fun k => sr (l.getD k ruZ0)) k n)) ∧ Hid (Below w.heap.size w wr)) (fun vi _ => n - (intOf vi).toNat)
  case atStart => exact ⟨0, Nat.zero_le _, rfl, HR0.out, HB0.out⟩
  case round =>
    obtain ⟨k, hk, rfl, HR, HB⟩ := hrel
    clear HR0 HB0
    by_cases hlt : k < n
    · have hlt' : k < l.length := by rw [← Hn.out]; exact hlt
      have hlti : (k : Int) < (n : Int) := by omega
      obtain ⟨g, off, rfl, hrg⟩ := (rngU HS.out).2 wr HB.out k hlt'
      have hbd := HBd.out _ (List.getElem_mem hlt')
      obtain ⟨p, hp⟩ : ∃ p, p = l[k] := ⟨_, rfl⟩
      rw [← hp] at hrg hbd
      have hgd : l.getD k ruZ0 = p := by rw [hp]; simp [hlt']
      have hq := (okR_sr hbd.2 hbd.1).2.1
      have x0 : wr.cell? ⟨g, off + k * 12, none⟩ = some (.int .i64 p.i) := hrg 0 _ rfl
      have x1 : wr.cell? ⟨g, off + k * 12 + 1, none⟩ = some (.int .u32 (p.s : Int)) := hrg 1 _ rfl
      have x2 : wr.cell? ⟨g, off + k * 12 + 2, none⟩ = some (.int .i64 p.sl) := hrg 2 _ rfl
      have x3 : wr.cell? ⟨g, off + k * 12 + 3, none⟩ = some (.int .u32 (p.d : Int)) := hrg 3 _ rfl
      have x4 : wr.cell? ⟨g, off + k * 12 + 4, none⟩ = some (.int .i64 p.dl) := hrg 4 _ rfl
      have x5 : wr.cell? ⟨g, off + k * 12 + 5, none⟩ = some (.int .u16 (p.p.1 : Int)) := hrg 5 _ rfl
      have x6 : wr.cell? ⟨g, off + k * 12 + 6, none⟩ = some (.int .u16 (p.p.2 : Int)) := hrg 6 _ rfl
      have x7 : wr.cell? ⟨g, off + k * 12 + 7, none⟩ = some (.int .u16 (p.q.1 : Int)) := hrg 7 _ rfl
      have x8 : wr.cell? ⟨g, off + k * 12 + 8, none⟩ = some (.int .u16 (p.q.2 : Int)) := hrg 8 _ rfl
      have x9 : wr.cell? ⟨g, off + k * 12 + 9, none⟩ = some (.int .u8 (p.m.1 : Int)) := hrg 9 _ rfl
      have x10 : wr.cell? ⟨g, off + k * 12 + 10, none⟩ = some (.int .u8 (p.m.2 : Int)) := hrg 10 _ rfl
      have x11 : wr.cell? ⟨g, off + k * 12 + 11, none⟩ = some (.int .i64 p.act) := hrg 11 _ rfl
      obtain ⟨W1, hW1⟩ : ∃ W1, W1 = wr.alloc (.cells #[.int .i64 p.i, .int .u32 (p.s : Int), .int .i64 p.sl, .int .u32 (p.d : Int), .int .i64 p.dl, .int .u16 (p.p.1 : Int), .int .u16 (p.p.2 : Int), .int .u16 (p.q.1 : Int), .int .u16 (p.q.2 : Int), .int .u8 (p.m.1 : Int), .int .u8 (p.m.2 : Int), .int .i64 p.act] 46) := ⟨_, rfl⟩
      have hbW : Below wr.heap.size wr W1 := by rw [hW1]; exact (Below.refl _ _).alloc (Nat.le_refl _) _
      have HR1 : Hid (RowX W1 w.heap.size (.slice (some ⟨w.heap.size, 0, none⟩) n n) (uptoX (fun k => sr (l.getD k ruZ0)) k n)) := HR.out.on hbW
      have HB1 : Hid (Below w.heap.size w W1) := HB.out.trans (hbW.mono HB.out.size)
      have y1 : W1.cell? ⟨wr.heap.size, 1, none⟩ = some (.int .u32 (p.s : Int)) := by rw [hW1]; exact blk_cell (blk_new wr _) rfl
      have y2 : W1.cell? ⟨wr.heap.size, 2, none⟩ = some (.int .i64 p.sl) := by rw [hW1]; exact blk_cell (blk_new wr _) rfl
      have Hset : Hid ((uptoX (fun k => sr (l.getD k ruZ0)) k n).take k ++ [sr p] ++ (uptoX (fun k => sr (l.getD k ruZ0)) k n).drop (k + [sr p].length) = uptoX (fun k => sr (l.getD k ruZ0)) (k + 1) n) := by
        have := uptoX_set (fun k => sr (l.getD k ruZ0)) hlt
        simp only [hgd] at this
        exact this
      have hv : Value.agg #[.int .u32 (p.s : Int), .int .i64 p.sl] = .agg #[.int .u32 ((sr p).1 : Int), .int .i64 ((sr p).2 : Int)] := by rw [← hq]; rfl
      have Hv : Hid _ := hv
      clear hrg hbd hp hgd hq hbW HR HB hv
      subst hW1
      go_wp2_with (refine wpList_storeX rfl (.tmp 20) (.tmp 19) rfl w.heap.size w.heap.size n n _ HR1.out k hlt (sr p) rfl Hv.out ?_; intro w3 hr3 hg3)
      have HR3 : Hid (RowX w3 w.heap.size (.slice (some ⟨w.heap.size, 0, none⟩) n n) (uptoX (fun k => sr (l.getD k ruZ0)) (k + 1) n)) := by rw [Hset.out] at hr3; exact hr3
      have HB3 : Hid (Below w.heap.size w w3) := HB1.out.grown hg3 HB1.out.size (fun q hq => by injection hq with e; omega)
      clear hr3 hg3
      go_roundw
      case rel => exact ⟨k + 1, by omega, by go_num, HR3.out, HB3.out⟩
      case measure => simp [intOf]; omega
    · obtain rfl : k = n := by omega
      have hni : ¬ (k : Int) < (k : Int) := by omega
      have HR' : Hid (RowX wr w.heap.size (.slice (some ⟨w.heap.size, 0, none⟩) k k) (l.map sr)) := by
        have e : uptoX (fun j => sr (l.getD j ruZ0)) k k = l.map sr := by rw [Hn.out]; exact uptoX_all (fun j hj => by simp [hj])
        rw [← e]; exact HR.out
      clear HR
      go_wp2
      go_ret
      exact ⟨_, rfl, HR'.out, HB.out⟩
end Go.Proofs.Ytcpcljdnkekogaa
/-
  nest's targets, held, Grid and Prune. Written by tools/mkNsT.py.
-/
namespace Go.Proofs.Ytcpcljdnkekogaa
open Go.RowKit
set_option linter.unusedVariables false
set_option linter.unusedSimpArgs false


def pr (R : Ru) : (Nat × Nat) × (Nat × Nat) := (sr R, ds R)
theorem tgs_app (l : List ((Nat × Nat) × (Nat × Nat))) (r : (Nat × Nat) × (Nat × Nat)) (s : Nat × Nat) : tgs witX (l ++ [r]) s = if witX s r.1 then tgs witX l s ++ [r.2] else tgs witX l s := by
  unfold tgs
  rw [List.filter_append, List.map_append]
  cases h : witX s r.1 <;> simp [h]
theorem srcX_at {w : World} {ad : Option Addr} {n cap : Nat} {l : List (Nat × Nat)} (h : SrcX w (.slice ad n cap) l) : n = l.length ∧ ∀ {W : World}, Below w.heap.size w W → ∀ k (hk : k < l.length), ∃ g off, ad = some ⟨g, off, none⟩ ∧ W.cell? ⟨g, off + k * 2, none⟩ = some (.int .u32 ((l[k]'hk).1 : Int)) ∧ W.cell? ⟨g, off + k * 2 + 1, none⟩ = some (.int .i64 ((l[k]'hk).2 : Int)) := by
  obtain ⟨ad', c, e, _, h2⟩ := h
  cases e
  refine ⟨rfl, fun {W} hb k hk => ?_⟩
  obtain ⟨g, off, rfl, h3⟩ := h2 (by omega)
  have h0 := h3 k hk 0 (by omega)
  have h1 := h3 k hk 1 (by omega)
  rw [Nat.add_zero] at h0
  rw [← Nat.add_assoc] at h1
  exact ⟨g, off, rfl, cell_on1 hb h0, cell_on1 hb h1⟩
set_option maxRecDepth 20000 in
set_option maxHeartbeats 4000000 in
theorem targetsC (l : List Ru) (s : Nat × Nat) (v : Value) (w : World) (hs : SrcU w v l) (hl : l.length ≤ 64) (hb : ∀ R ∈ l, BdR R ∧ okR R = true) (ho : s.1 < 4294967296) :
    Calls Try.prog 47 #[v, .agg #[.int .u32 (s.1), .int .i64 (s.2)]] w fun e w' => ∃ v' : Value, e = .returned v' ∧ RowX w' w.heap.size v' (tgs witX (l.map pr) s) ∧ Below w.heap.size w w' := by
  have HS : Hid (SrcU w v l) := hs
  have HBd : Hid (∀ R ∈ l, BdR R ∧ okR R = true) := hb
  obtain ⟨ad, cap, rfl, hcp, _⟩ := hs
  obtain ⟨n, hn⟩ : ∃ n, n = l.length := ⟨_, rfl⟩
  rw [← hn] at HS hl ⊢
  have Hn : Hid (n = l.length) := hn
  clear hn hb hcp
  obtain ⟨w0, hw0⟩ : ∃ w0, w0 = w.alloc (.cells #[.int .u32 (s.1 : Int), .int .i64 (s.2 : Int)] 39) := ⟨_, rfl⟩
  have Hz0 : Hid (w0.cell? ⟨w.heap.size, 0, none⟩ = some (.int .u32 (s.1 : Int))) := by rw [hw0]; exact blk_cell (blk_new w _) rfl
  have Hz1 : Hid (w0.cell? ⟨w.heap.size, 1, none⟩ = some (.int .i64 (s.2 : Int))) := by rw [hw0]; exact blk_cell (blk_new w _) rfl
  have HB0 : Hid (Below w.heap.size w w0) := by rw [hw0]; exact (Below.refl _ _).alloc (Nat.le_refl _) _
  have Hsz : Hid (w.heap.size < w0.heap.size) := by show w.heap.size < w0.heap.size; rw [hw0]; simp
  have hw0s : w.alloc (.cells #[.int .u32 (s.1 : Int), .int .i64 (s.2 : Int)] 39) = w0 := hw0.symm
  clear hw0
  go_enter Try.func47, Try.ntmps47
  go_wp2_with (fail)
  try simp only [hw0s]
  clear hw0s
  go_loopw [5, 10] (fun sv vi wr => ∃ (k : Nat) (vs : Value), k ≤ n ∧ vs = sv ∧ vi = .int .i64 (k : Int) ∧ Hid (RowX wr w0.heap.size vs (tgs witX ((l.take k).map pr) s)) ∧ Hid (Below w0.heap.size w0 wr)) (fun _ vi _ => n - (intOf vi).toNat)
  case atStart => exact ⟨0, _, Nat.zero_le _, rfl, rfl, World.ownsRow_nil _ _ _ _, Below.refl _ _⟩
  case round =>
    obtain ⟨k, vs, hk, rfl, rfl, HR, HB⟩ := hrel
    by_cases hlt : k < n
    · have hlt' : k < l.length := by rw [← Hn.out]; exact hlt
      have hlti : (k : Int) < (n : Int) := by omega
      have HBw : Hid (Below w.heap.size w wr) := bel_of HB0.out HB.out HB0.out.size
      obtain ⟨g, off, rfl, hrg⟩ := (rngU HS.out).2 wr HBw.out k hlt'
      have hbd := HBd.out _ (List.getElem_mem hlt')
      have hst : tgs witX ((l.take (k + 1)).map pr) s = if witX s (sr l[k]) then tgs witX ((l.take k).map pr) s ++ [ds l[k]] else tgs witX ((l.take k).map pr) s := by rw [take_at hlt', List.map_append]; exact tgs_app _ _ _
      obtain ⟨p, hp⟩ : ∃ p, p = l[k] := ⟨_, rfl⟩
      rw [← hp] at hrg hbd hst
      obtain ⟨_, hq1, _, hq2⟩ := okR_sr hbd.2 hbd.1
      have Hlen : Hid ((tgs witX ((l.take k).map pr) s).length ≤ 64) := by
        show (tgs witX ((l.take k).map pr) s).length ≤ 64
        unfold tgs; rw [List.length_map]
        exact Nat.le_trans (List.length_filter_le _ _) (by rw [List.length_map, List.length_take]; omega)
      have x0 : wr.cell? ⟨g, off + k * 12, none⟩ = some (.int .i64 p.i) := hrg 0 _ rfl
      have x1 : wr.cell? ⟨g, off + k * 12 + 1, none⟩ = some (.int .u32 (p.s : Int)) := hrg 1 _ rfl
      have x2 : wr.cell? ⟨g, off + k * 12 + 2, none⟩ = some (.int .i64 p.sl) := hrg 2 _ rfl
      have x3 : wr.cell? ⟨g, off + k * 12 + 3, none⟩ = some (.int .u32 (p.d : Int)) := hrg 3 _ rfl
      have x4 : wr.cell? ⟨g, off + k * 12 + 4, none⟩ = some (.int .i64 p.dl) := hrg 4 _ rfl
      have x5 : wr.cell? ⟨g, off + k * 12 + 5, none⟩ = some (.int .u16 (p.p.1 : Int)) := hrg 5 _ rfl
      have x6 : wr.cell? ⟨g, off + k * 12 + 6, none⟩ = some (.int .u16 (p.p.2 : Int)) := hrg 6 _ rfl
      have x7 : wr.cell? ⟨g, off + k * 12 + 7, none⟩ = some (.int .u16 (p.q.1 : Int)) := hrg 7 _ rfl
      have x8 : wr.cell? ⟨g, off + k * 12 + 8, none⟩ = some (.int .u16 (p.q.2 : Int)) := hrg 8 _ rfl
      have x9 : wr.cell? ⟨g, off + k * 12 + 9, none⟩ = some (.int .u8 (p.m.1 : Int)) := hrg 9 _ rfl
      have x10 : wr.cell? ⟨g, off + k * 12 + 10, none⟩ = some (.int .u8 (p.m.2 : Int)) := hrg 10 _ rfl
      have x11 : wr.cell? ⟨g, off + k * 12 + 11, none⟩ = some (.int .i64 p.act) := hrg 11 _ rfl
      have hW := fun W => withinX s (sr p) W ho hbd.1.1
      have hqs : (sr p).1 = p.s := rfl
      rw [hqs, ← hq1] at hW
      have Hst : Hid _ := hst
      obtain ⟨W1, hW1⟩ : ∃ W1, W1 = wr.alloc (.cells #[.int .i64 p.i, .int .u32 (p.s : Int), .int .i64 p.sl, .int .u32 (p.d : Int), .int .i64 p.dl, .int .u16 (p.p.1 : Int), .int .u16 (p.p.2 : Int), .int .u16 (p.q.1 : Int), .int .u16 (p.q.2 : Int), .int .u8 (p.m.1 : Int), .int .u8 (p.m.2 : Int), .int .i64 p.act] 46) := ⟨_, rfl⟩
      have hbW : Below wr.heap.size wr W1 := by rw [hW1]; exact (Below.refl _ _).alloc (Nat.le_refl _) _
      have HR1 : Hid (RowX W1 w0.heap.size vs (tgs witX ((l.take k).map pr) s)) := HR.out.on hbW
      have HB1 : Hid (Below w0.heap.size w0 W1) := HB.out.trans (hbW.mono HB.out.size)
      have HX : Hid (W1.heap[wr.heap.size]? = some (.cells #[.int .i64 p.i, .int .u32 (p.s : Int), .int .i64 p.sl, .int .u32 (p.d : Int), .int .i64 p.dl, .int .u16 (p.p.1 : Int), .int .u16 (p.p.2 : Int), .int .u16 (p.q.1 : Int), .int .u16 (p.q.2 : Int), .int .u8 (p.m.1 : Int), .int .u8 (p.m.2 : Int), .int .i64 p.act] 46 (0, 0))) := by rw [hW1]; exact blk_new wr _
      have y1 : W1.cell? ⟨wr.heap.size, 1, none⟩ = some (.int .u32 (p.s : Int)) := blk_cell HX.out rfl
      have y2 : W1.cell? ⟨wr.heap.size, 2, none⟩ = some (.int .i64 p.sl) := blk_cell HX.out rfl
      have z0 := cell_on1 HB1.out Hz0.out
      have z1 := cell_on1 HB1.out Hz1.out
      have hv : (#[.int .u32 (p.d : Int), .int .i64 p.dl] : Array Value) = #[.int .u32 ((ds p).1 : Int), .int .i64 ((ds p).2 : Int)] := by rw [← hq2]; rfl
      have Hv : Hid _ := hv
      clear hrg hbd hp hst hq1 hq2 hqs hbW HR HB hv
      subst hW1
      cases hwi : witX s (sr p) with
      | false =>
        rw [hwi] at hW
        have Hst2 : Hid (tgs witX ((l.take (k + 1)).map pr) s = tgs witX ((l.take k).map pr) s) := by have := Hst.out; rw [hwi] at this; exact this
        clear Hst hwi
        go_wp2_with (go_at_call 71; refine (hW _).mono ?_; rintro e w4 ⟨rfl, hb4⟩)
        have HR4 : Hid (RowX w4 w0.heap.size vs (tgs witX ((l.take (k + 1)).map pr) s)) := by rw [Hst2.out]; exact HR1.out.on (by assumption)
        have HB4 : Hid (Below w0.heap.size w0 w4) := bel_of HB1.out (by assumption) HB1.out.size
        go_roundw
        case rel => exact ⟨k + 1, _, by omega, rfl, by go_num, HR4.out, HB4.out⟩
        case measure => simp [intOf]; omega
      | true =>
        rw [hwi] at hW
        have Hst2 : Hid (tgs witX ((l.take (k + 1)).map pr) s = tgs witX ((l.take k).map pr) s ++ [ds p]) := by have := Hst.out; rw [hwi] at this; exact this
        clear Hst hwi
        go_wp2_with (go_at_call 71; fail)
        refine (hW _).mono ?_
        rintro e w4 ⟨rfl, hb4⟩
        have HX4 : Hid (w4.heap[wr.heap.size]? = some (.cells #[.int .i64 p.i, .int .u32 (p.s : Int), .int .i64 p.sl, .int .u32 (p.d : Int), .int .i64 p.dl, .int .u16 (p.p.1 : Int), .int .u16 (p.p.2 : Int), .int .u16 (p.q.1 : Int), .int .u16 (p.q.2 : Int), .int .u8 (p.m.1 : Int), .int .u8 (p.m.2 : Int), .int .i64 p.act] 46 (0, 0))) := blk_on HX.out hb4
        have y3 : w4.cell? ⟨wr.heap.size, 3, none⟩ = some (.int .u32 (p.d : Int)) := blk_cell HX4.out rfl
        have y4 : w4.cell? ⟨wr.heap.size, 4, none⟩ = some (.int .i64 p.dl) := blk_cell HX4.out rfl
        have HR4 : Hid (RowX w4 w0.heap.size vs (tgs witX ((l.take k).map pr) s)) := HR1.out.on hb4
        have HB4 : Hid (Below w0.heap.size w0 w4) := bel_of HB1.out hb4 HB1.out.size
        clear hb4 hW HX HR1 HB1 y1 y2 z0 z1 x0 x1 x2 x3 x4 x5 x6 x7 x8 x9 x10 x11
        have Hlen2 : Hid ((tgs witX ((l.take k).map pr) s).length + [ds p].length ≤ 4294967296) := by
          have := Hlen.out
          show (tgs witX ((l.take k).map pr) s).length + 1 ≤ 4294967296
          omega
        have hone : Hid (RowX (w4.alloc (.cells #[.int .u32 (p.d : Int), .int .i64 p.dl] 39)) w0.heap.size (.slice (some ⟨w4.heap.size, 0, none⟩) 1 1) [ds p]) := by
          rw [Hv.out]; exact RowX.one w4 _ (ds p) HB4.out.size
        have HR5 : Hid (RowX (w4.alloc (.cells #[.int .u32 (p.d : Int), .int .i64 p.dl] 39)) w0.heap.size vs (tgs witX ((l.take k).map pr) s)) := HR4.out.alloc _
        have HB5 : Hid (Below w0.heap.size w0 (w4.alloc (.cells #[.int .u32 (p.d : Int), .int .i64 p.dl] 39))) := HB4.out.alloc HB4.out.size _
        go_wp2_with (at_builtin; refine wpList_appendX rfl (.tmp 18) (.tmp 21) rfl w0.heap.size vs _ rfl HR5.out w0.heap.size _ [ds p] rfl hone.out HB5.out.size Hlen2.out ?_; intro v6 w6 hr6 hg6)
        have HR6 : Hid (RowX w6 w0.heap.size v6 (tgs witX ((l.take (k + 1)).map pr) s)) := by rw [Hst2.out]; exact hr6
        have HB6 : Hid (Below w0.heap.size w0 w6) := HB5.out.grown hg6 HB5.out.size (fun q hq => (HR5.out.lt q hq).1)
        clear hr6 hg6
        go_roundw
        case rel => exact ⟨k + 1, _, by omega, rfl, by go_num, HR6.out, HB6.out⟩
        case measure => simp [intOf]; omega
    · obtain rfl : k = n := by omega
      have hni : ¬ (k : Int) < (k : Int) := by omega
      have HR' : Hid (RowX wr w.heap.size vs (tgs witX (l.map pr) s)) := by
        have := HR.out
        rw [Hn.out, List.take_length] at this
        exact this.base (Nat.le_of_lt Hsz.out)
      clear HR
      go_wp2
      go_ret
      exact ⟨_, rfl, HR'.out, bel_of HB0.out HB.out HB0.out.size⟩

theorem sum_step {f : Nat × Nat → Nat} {u : List (Nat × Nat)} {k : Nat} (hk : k < u.length) : sumF f (u.take (k + 1)) = sumF f (u.take k) + f u[k] := by
  rw [take_at hk, sumF_app]; simp [sumF]
theorem cnt_step {q : Nat × Nat → Bool} {l : List (Nat × Nat)} {k : Nat} (hk : k < l.length) : (l.take (k + 1)).countP q = (l.take k).countP q + if q l[k] then 1 else 0 := by
  rw [take_at hk, List.countP_append, List.countP_singleton]
set_option maxRecDepth 20000 in
set_option maxHeartbeats 4000000 in
theorem heldC (l : List (Nat × Nat)) (v : Value) (w : World) (hs : SrcX w v l) (hl : l.length ≤ 64) (hb : ∀ x ∈ l, x.1 < 4294967296) :
    Calls Try.prog 46 #[v] w fun e w' => e = .returned (.int .i64 (hel witX l : Nat)) ∧ Below w.heap.size w w' := by
  have hU := unlX l v w hs (by omega)
  have HS : Hid (SrcX w v l) := hs
  have HBd : Hid (∀ x ∈ l, x.1 < 4294967296) := hb
  obtain ⟨ad, cap, rfl, hcp, _⟩ := hs
  obtain ⟨n, hn⟩ : ∃ n, n = l.length := ⟨_, rfl⟩
  rw [← hn] at HS hl hU ⊢
  have Hn : Hid (n = l.length) := hn
  clear hn hb hcp
  obtain ⟨A, hA⟩ : ∃ A, A = hel witX l := ⟨_, rfl⟩
  rw [← hA]
  have HA : Hid (A = hel witX l) := hA
  clear hA
  go_enter Try.func46, Try.ntmps46
  go_wp2_with (fail)
  refine hU.mono ?_
  rintro e w1 ⟨v3, u, rfl, hm, hp, hr1, hb1⟩
  have hnd : u.Nodup := List.Pairwise.imp (S := fun a b => a ≠ b) (fun {a b} hab e => by subst e; unfold ltX at hab; omega) hp
  have hul : u.length ≤ 64 := by
    have : u.length ≤ l.length := List.Nodup.length_le_of_subset hnd (fun x hx => (hm x).1 hx)
    have := Hn.out; omega
  have HE : Hid (sumF (fun p => l.countP (witX p)) u = A) := by
    show sumF (fun p => l.countP (witX p)) u = A
    rw [HA.out]; exact hel_of hnd hm
  have HM : Hid (∀ x, x ∈ u ↔ x ∈ l) := hm
  have HR1 : Hid (SrcX w1 v3 u) := hr1.src
  have HB1 : Hid (Below w.heap.size w w1) := hb1
  obtain ⟨au, cu, rfl, _, _⟩ := hr1.form
  obtain ⟨m, hmm⟩ : ∃ m, m = u.length := ⟨_, rfl⟩
  rw [← hmm] at HR1 hul ⊢
  have Hm : Hid (m = u.length) := hmm
  clear hU hm hp hr1 hb1 hnd hmm HA
  go_wp2_with (fail)
  go_loopw [3, 11] (fun vs vi wr => ∃ i : Nat, i ≤ m ∧ vs = .int .i64 ((sumF (fun p => l.countP (witX p)) (u.take i) : Nat) : Int) ∧ vi = .int .i64 (i : Int) ∧ Hid (Below w1.heap.size w1 wr)) (fun _ vi _ => m - (intOf vi).toNat)
  case atStart => exact ⟨0, Nat.zero_le _, rfl, rfl, Below.refl _ _⟩
  case round =>
    obtain ⟨i, hi, rfl, rfl, HB⟩ := hrel
    by_cases hlt : i < m
    · have hlt' : i < u.length := by rw [← Hm.out]; exact hlt
      have hlti : (i : Int) < (m : Int) := by omega
      obtain ⟨g, off, rfl, c0, c1⟩ := (srcX_at HR1.out).2 HB.out i hlt'
      have hst := sum_step (f := fun p => l.countP (witX p)) hlt'
      have hbo := sumF_bound (f := fun p => l.countP (witX p)) (l := u.take i) (k := 64) (fun x _ => Nat.le_trans List.countP_le_length (by rw [← Hn.out]; exact hl))
      have hbo2 : sumF (fun p => l.countP (witX p)) (u.take i) ≤ 64 * 64 := Nat.le_trans hbo (by rw [List.length_take]; exact Nat.mul_le_mul_right _ (by omega))
      obtain ⟨p, hp⟩ : ∃ p, p = u[i] := ⟨_, rfl⟩
      rw [← hp] at c0 c1 hst
      have hpl : p.1 < 4294967296 := HBd.out p ((HM.out p).1 (by rw [hp]; exact List.getElem_mem _))
      obtain ⟨W1, hW1⟩ : ∃ W1, W1 = wr.alloc (.cells #[.int .u32 (p.1 : Int), .int .i64 (p.2 : Int)] 39) := ⟨_, rfl⟩
      have hbW : Below wr.heap.size wr W1 := by rw [hW1]; exact (Below.refl _ _).alloc (Nat.le_refl _) _
      have HBW : Hid (Below w1.heap.size w1 W1) := HB.out.trans (hbW.mono HB.out.size)
      have Hy0 : Hid (W1.cell? ⟨wr.heap.size, 0, none⟩ = some (.int .u32 (p.1 : Int))) := by rw [hW1]; exact blk_cell (blk_new wr _) rfl
      have Hy1 : Hid (W1.cell? ⟨wr.heap.size, 1, none⟩ = some (.int .i64 (p.2 : Int))) := by rw [hW1]; exact blk_cell (blk_new wr _) rfl
      have HBwW : Hid (Below w.heap.size w W1) := bel_of HB1.out HBW.out HB1.out.size
      have Hst : Hid _ := hst
      have hW1s : wr.alloc (.cells #[.int .u32 (p.1 : Int), .int .i64 (p.2 : Int)] 39) = W1 := hW1.symm
      clear hst hbo hp hbW hW1 HB
      generalize sumF (fun p => l.countP (witX p)) (u.take i) = S0 at *
      go_wp2_with (fail)
      try simp only [hW1s]
      clear c0 c1 hW1s
      generalize wr.heap.size = BB at *
      go_loopw [3, 17] (fun vs vj wr => ∃ j : Nat, j ≤ n ∧ vs = .int .i64 (((S0 + (l.take j).countP (witX p)) : Nat) : Int) ∧ vj = .int .i64 (j : Int) ∧ Hid (Below W1.heap.size W1 wr)) (fun _ vj _ => n - (intOf vj).toNat)
      case atStart => exact ⟨0, Nat.zero_le _, by simp, rfl, Below.refl _ _⟩
      case round =>
        obtain ⟨j, hj, rfl, rfl, HBq⟩ := hrel
        by_cases hltj : j < n
        · have hltj' : j < l.length := by rw [← Hn.out]; exact hltj
          have hltji : (j : Int) < (n : Int) := by omega
          have HBwq : Hid (Below w.heap.size w wr) := bel_of HBwW.out HBq.out HBwW.out.size
          obtain ⟨g2, off2, rfl, c0, c1⟩ := (srcX_at HS.out).2 HBwq.out j hltj'
          have hct := cnt_step (q := witX p) hltj'
          have hcb : (l.take j).countP (witX p) ≤ 64 := Nat.le_trans List.countP_le_length (by rw [List.length_take]; omega)
          obtain ⟨q, hq⟩ : ∃ q, q = l[j] := ⟨_, rfl⟩
          rw [← hq] at c0 c1 hct
          have hql : q.1 < 4294967296 := HBd.out q (by rw [hq]; exact List.getElem_mem _)
          have hW := fun W => withinX p q W hpl hql
          obtain ⟨W2, hW2⟩ : ∃ W2, W2 = wr.alloc (.cells #[.int .u32 (q.1 : Int), .int .i64 (q.2 : Int)] 39) := ⟨_, rfl⟩
          have hbW2 : Below wr.heap.size wr W2 := by rw [hW2]; exact (Below.refl _ _).alloc (Nat.le_refl _) _
          have HB2 : Hid (Below W1.heap.size W1 W2) := HBq.out.trans (hbW2.mono HBq.out.size)
          have y0 := cell_on1 HB2.out Hy0.out
          have y1 := cell_on1 HB2.out Hy1.out
          have q0 : W2.cell? ⟨wr.heap.size, 0, none⟩ = some (.int .u32 (q.1 : Int)) := by rw [hW2]; exact blk_cell (blk_new wr _) rfl
          have q1 : W2.cell? ⟨wr.heap.size, 1, none⟩ = some (.int .i64 (q.2 : Int)) := by rw [hW2]; exact blk_cell (blk_new wr _) rfl
          have Hct : Hid _ := hct
          clear hct hq hbW2 HBq HBwq
          generalize (l.take j).countP (witX p) = C at *
          cases hwi : witX p q with
          | false =>
            rw [hwi] at hW
            have Hct2 : Hid ((l.take (j + 1)).countP (witX p) = C) := show (l.take (j + 1)).countP (witX p) = C by have := Hct.out; rw [hwi] at this; simpa using this
            clear Hct hwi
            subst hW2
            go_wp2_with (go_at_call 71; refine (hW _).mono ?_; rintro e w4 ⟨rfl, hb4⟩)
            have HB4 : Hid (Below W1.heap.size W1 w4) := bel_of HB2.out (by assumption) HB2.out.size
            go_roundw
            case rel => exact ⟨j + 1, by omega, (by rw [Hct2.out]; first | rfl | simp), by go_num, HB4.out⟩
            case measure => simp [intOf]; omega
          | true =>
            rw [hwi] at hW
            have Hct2 : Hid ((l.take (j + 1)).countP (witX p) = C + 1) := show (l.take (j + 1)).countP (witX p) = C + 1 by have := Hct.out; rw [hwi] at this; simpa using this
            clear Hct hwi
            subst hW2
            go_wp2_with (go_at_call 71; refine (hW _).mono ?_; rintro e w4 ⟨rfl, hb4⟩)
            have HB4 : Hid (Below W1.heap.size W1 w4) := bel_of HB2.out (by assumption) HB2.out.size
            go_roundw
            case rel => exact ⟨j + 1, by omega, by rw [Hct2.out]; go_num, by go_num, HB4.out⟩
            case measure => simp [intOf]; omega
        · obtain rfl : j = n := by omega
          have hnj : ¬ (j : Int) < (j : Int) := by omega
          have HB5 : Hid (Below w1.heap.size w1 wr) := bel_of HBW.out HBq.out HBW.out.size
          have Hfin : Hid (sumF (fun p => l.countP (witX p)) (u.take (i + 1)) = S0 + (l.take j).countP (witX p)) := show _ = S0 + (l.take j).countP (witX p) by rw [Hst.out, Hn.out, List.take_length]
          generalize (l.take j).countP (witX p) = C at *
          go_wp2
          go_roundw
          case rel => exact ⟨i + 1, by omega, (by rw [Hfin.out]), by go_num, HB5.out⟩
          case measure => simp [intOf]; omega
    · obtain rfl : i = m := by omega
      have hni : ¬ (i : Int) < (i : Int) := by omega
      have et : u.take i = u := by rw [Hm.out]; exact List.take_length
      rw [et]
      go_wp2
      go_ret
      exact ⟨ret_int (by rw [HE.out]), bel_of HB1.out HB.out HB1.out.size⟩
end Go.Proofs.Ytcpcljdnkekogaa
/-
  nest's Prune (out of NsV).
-/
namespace Go.Proofs.Ytcpcljdnkekogaa
open Go.RowKit
set_option linter.unusedVariables false
set_option linter.unusedSimpArgs false


def grdL (l : List Ru) : Nat := if setE l 64 = 0 then grdN witX (l.map pr) else 0
def prnL (l : List Ru) : Nat := if setE l 64 = 0 then prnN witX (l.map pr) else 0
theorem map_sr (l : List Ru) : (l.map pr).map (·.1) = l.map sr := by simp [pr]
set_option maxRecDepth 20000 in
set_option maxHeartbeats 4000000 in
theorem pruneC (l : List Ru) (v : Value) (w : World) (hs : SrcU w v l) (hl : l.length ≤ 16777216) (hb : ∀ R ∈ l, BdR R) :
    Calls Try.prog 31 #[v] w fun e w' => e = .returned (.tuple #[.int .i64 (prnL l : Nat), .int .i64 (setE l 64)]) ∧ Below w.heap.size w w' := by
  have hC := checkLC l v w hs hl hb
  have HS : Hid (SrcU w v l) := hs
  have HOk : Hid (setE l 64 = 0 → l.length ≤ 64 ∧ ∀ R ∈ l, BdR R ∧ okR R = true) := fun h0 => by
    have o := setE_ok h0
    refine ⟨?_, fun R hR => ⟨hb R hR, ?_⟩⟩
    · rcases o.few with e | e
      · rw [e]; simp
      · omega
    · obtain ⟨k, hk, rfl⟩ := List.mem_iff_getElem.1 hR
      exact o.may k hk
  clear hs hb
  by_cases h0 : setE l 64 = 0
  · obtain ⟨o1, o2⟩ := HOk.out h0
    have HG : Hid (prnL l = prnN witX (l.map pr)) := if_pos h0
    have HX : Hid (∀ x ∈ l.map sr, x.1 < 4294967296) := fun x hx => by
      obtain ⟨R, hR, rfl⟩ := List.mem_map.1 hx
      exact (o2 R hR).1.1
    have HD : Hid (∀ s, ∀ x ∈ tgs witX (l.map pr) s, x.1 < 4294967296) := fun s x hx => by
      unfold tgs at hx
      obtain ⟨r, hr, rfl⟩ := List.mem_map.1 hx
      obtain ⟨R, hR, rfl⟩ := List.mem_map.1 (List.mem_filter.1 hr).1
      exact (o2 R hR).1.2.1
    have HTL : Hid (∀ s, (tgs witX (l.map pr) s).length ≤ 64) := fun s => by
      unfold tgs; rw [List.length_map]
      exact Nat.le_trans (List.length_filter_le _ _) (by rw [List.length_map]; exact o1)
    have HL : Hid ((l.map sr).length ≤ 64) := by show (l.map sr).length ≤ 64; rw [List.length_map]; exact o1
    have HO1 : Hid (l.length ≤ 64) := o1
    have HO2 : Hid (∀ R ∈ l, BdR R ∧ okR R = true) := o2
    generalize prnL l = G at *
    rw [h0] at hC ⊢
    go_enter Try.func31, Try.ntmps31
    go_wp2_with (fail)
    refine hC.mono ?_
    rintro e w1 ⟨rfl, hb1⟩
    have HB1 : Hid (Below w.heap.size w w1) := hb1
    have hS := sourcesC l v w1 (HS.out.keep hb1) o1 o2
    clear hC hb1 o1 o2 h0
    go_wp2_with (go_at_call 45; fail)
    refine hS.mono ?_
    rintro e w2 ⟨v2, rfl, hr2, hb2⟩
    have hU := unlX (l.map sr) v2 w2 hr2.src (by have := HL.out; omega)
    have HB2 : Hid (Below w.heap.size w w2) := bel_of HB1.out hb2 HB1.out.size
    clear hr2 hb2 hS
    go_wp2_with (go_at_call 44; fail)
    refine hU.mono ?_
    rintro e w3 ⟨v3, u, rfl, hm, hp, hr3, hb3⟩
    have hnd : u.Nodup := List.Pairwise.imp (S := fun a b => a ≠ b) (fun {a b} hab e => by subst e; unfold ltX at hab; omega) hp
    have hul : u.length ≤ 64 := by
      have : u.length ≤ (l.map sr).length := List.Nodup.length_le_of_subset hnd (fun x hx => (hm x).1 hx)
      have := HL.out; omega
    have HE : Hid (sumF (fun s => hel witX (tgs witX (l.map pr) s)) u = G) := by
      show sumF (fun s => hel witX (tgs witX (l.map pr) s)) u = G
      rw [HG.out]; exact prn_of hnd (fun x => by rw [map_sr]; exact hm x)
    have HM : Hid (∀ x ∈ u, x.1 < 4294967296) := fun x hx => HX.out x ((hm x).1 hx)
    have HR3 : Hid (SrcX w3 v3 u) := hr3.src
    have HB3 : Hid (Below w.heap.size w w3) := bel_of HB2.out hb3 HB2.out.size
    obtain ⟨au, cu, rfl, _, _⟩ := hr3.form
    obtain ⟨m, hmm⟩ : ∃ m, m = u.length := ⟨_, rfl⟩
    rw [← hmm] at HR3 hul ⊢
    have Hm : Hid (m = u.length) := hmm
    clear hU hm hp hr3 hb3 hnd hmm HG HX
    go_wp2_with (fail)
    go_loopw [5, 17] (fun vs vi wr => ∃ i : Nat, i ≤ m ∧ vs = .int .i64 ((sumF (fun s => hel witX (tgs witX (l.map pr) s)) (u.take i) : Nat) : Int) ∧ vi = .int .i64 (i : Int) ∧ Hid (Below w3.heap.size w3 wr)) (fun _ vi _ => m - (intOf vi).toNat)
    case atStart => exact ⟨0, Nat.zero_le _, rfl, rfl, Below.refl _ _⟩
    case round =>
      obtain ⟨i, hi, rfl, rfl, HB⟩ := hrel
      by_cases hlt : i < m
      · have hlt' : i < u.length := by rw [← Hm.out]; exact hlt
        have hlti : (i : Int) < (m : Int) := by omega
        obtain ⟨g, off, rfl, c0, c1⟩ := (srcX_at HR3.out).2 HB.out i hlt'
        have hst := sum_step (f := fun s => hel witX (tgs witX (l.map pr) s)) hlt'
        have hbo := sumF_bound (f := fun s => hel witX (tgs witX (l.map pr) s)) (l := u.take i) (k := 64 * 64) (fun x _ => Nat.le_trans (hel_le _) (Nat.mul_le_mul (HTL.out x) (HTL.out x)))
        have hbo2 : sumF (fun s => hel witX (tgs witX (l.map pr) s)) (u.take i) ≤ 64 * (64 * 64) := Nat.le_trans hbo (by rw [List.length_take]; exact Nat.mul_le_mul_right _ (by omega))
        obtain ⟨p, hp⟩ : ∃ p, p = u[i] := ⟨_, rfl⟩
        rw [← hp] at c0 c1 hst
        have hpl : p.1 < 4294967296 := HM.out p (by rw [hp]; exact List.getElem_mem _)
        have hhb : hel witX (tgs witX (l.map pr) p) ≤ 64 * 64 := Nat.le_trans (hel_le _) (Nat.mul_le_mul (HTL.out p) (HTL.out p))
        obtain ⟨W1, hW1⟩ : ∃ W1, W1 = wr.alloc (.cells #[.int .u32 (p.1 : Int), .int .i64 (p.2 : Int)] 39) := ⟨_, rfl⟩
        have hbW : Below wr.heap.size wr W1 := by rw [hW1]; exact (Below.refl _ _).alloc (Nat.le_refl _) _
        have HBW : Hid (Below w3.heap.size w3 W1) := HB.out.trans (hbW.mono HB.out.size)
        have hT := targetsC l p v W1 (HS.out.keep (bel_of HB3.out HBW.out HB3.out.size)) HO1.out HO2.out hpl
        have Hst : Hid _ := hst
        clear hst hbo hp hbW HB
        generalize sumF (fun s => hel witX (tgs witX (l.map pr) s)) (u.take i) = S0 at *
        subst hW1
        go_wp2_with (go_at_call 47; fail)
        refine hT.mono ?_
        rintro e w5 ⟨v5, rfl, hr5, hb5⟩
        have hH := heldC (tgs witX (l.map pr) p) v5 w5 hr5.src (HTL.out p) (HD.out p)
        have HB5 : Hid (Below w3.heap.size w3 w5) := bel_of HBW.out hb5 HBW.out.size
        clear hr5 hb5 hT HBW c0 c1
        generalize hel witX (tgs witX (l.map pr) p) = H1 at *
        go_wp2_with (go_at_call 46; fail)
        refine hH.mono ?_
        rintro e w6 ⟨rfl, hb6⟩
        have HB6 : Hid (Below w3.heap.size w3 w6) := bel_of HB5.out hb6 HB5.out.size
        clear hb6 hH HB5
        go_wp2
        go_roundw
        case rel => exact ⟨i + 1, by omega, by rw [Hst.out]; go_num, by go_num, HB6.out⟩
        case measure => simp [intOf]; omega
      · obtain rfl : i = m := by omega
        have hni : ¬ (i : Int) < (i : Int) := by omega
        have et : sumF (fun s => hel witX (tgs witX (l.map pr) s)) (u.take i) = G := by rw [Hm.out, List.take_length]; exact HE.out
        rw [et]
        clear et
        go_wp2
        go_ret2
        exact ⟨rfl, bel_of HB3.out HB.out HB3.out.size⟩
  · have hG : prnL l = 0 := if_neg h0
    rw [hG]
    have h0' : (setE l 64 != 0) = true := by simpa using h0
    clear HOk hG
    generalize setE l 64 = E at *
    go_enter Try.func31, Try.ntmps31
    go_wp2_with (fail)
    refine hC.mono ?_
    rintro e w1 ⟨rfl, hb1⟩
    have HB1 : Hid (Below w.heap.size w w1) := hb1
    clear hC hb1
    go_wp2
    go_ret2
    exact ⟨rfl, HB1.out⟩
end Go.Proofs.Ytcpcljdnkekogaa
