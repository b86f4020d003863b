/-
  PkAF: TbRd TbA TbB TbT, one behind the other (tools/pack.py).
-/
import Derived.Test.YtfpmljgmfapoiaaPkAE
import Derived.Test.YtfpmljgmfapoiaaPkAD
import Derived.Laws.MakeOwn
/-
  mayBe, Match, All of package rule (as in RuD).
-/
namespace Go.Proofs.Ytfpmljgmfapoiaa
open Go.RowKit
set_option linter.unusedVariables false
set_option linter.unusedSimpArgs false

set_option maxHeartbeats 1000000 in
theorem allRC (i a : Int) (w : World) :
    Calls Try.prog 61 #[.int .i64 i, .int .i64 a] w fun e w' => e = .returned (.agg #[.int .i64 (allR i a).i, .int .u32 ((allR i a).s : Int), .int .i64 (allR i a).sl, .int .u32 ((allR i a).d : Int), .int .i64 (allR i a).dl, .int .u16 ((allR i a).p.1 : Int), .int .u16 ((allR i a).p.2 : Int), .int .u16 ((allR i a).q.1 : Int), .int .u16 ((allR i a).q.2 : Int), .int .u8 ((allR i a).m.1 : Int), .int .u8 ((allR i a).m.2 : Int), .int .i64 (allR i a).act]) ∧ Below w.heap.size w w' := by
  go_enter Try.func61, Try.ntmps61
  go_wp2_with (fail)
  exact bodyPost_ret (v := .agg #[.int .i64 i, .int .u32 0, .int .i64 0, .int .u32 0, .int .i64 0, .int .u16 0, .int .u16 65535, .int .u16 0, .int .u16 65535, .int .u8 0, .int .u8 0, .int .i64 a]) (by simp [results, Try.results61, go_sem]) rfl ⟨rfl, by (repeat (first | assumption | exact Below.refl _ _ | refine Below.drew ?_ | refine bel_drewN ?_ _ | refine Below.setCell ?_ (by first | omega | (simp; done) | (simp; omega)) _ | refine Below.alloc ?_ (by first | omega | (simp; done) | (simp; omega)) _ | refine bel_of ?_ (by assumption)))⟩
end Go.Proofs.Ytfpmljgmfapoiaa
/-
  Package table: among, isAction, Check, New; placeOf, mayJoin, copyOf.
-/
namespace Go.Proofs.Ytfpmljgmfapoiaa
open Go.RowKit
set_option linter.unusedVariables false
set_option linter.unusedSimpArgs false

/-- A configuration: Max, Default, Prune, Grid, Tuple, Binth, Depth. -/
structure Cf where
  m : Int
  a : Int
  p : Int
  g : Int
  t : Int
  b : Int
  d : Int
def BdC (c : Cf) : Prop := I64 c.m ∧ I64 c.a ∧ I64 c.p ∧ I64 c.g ∧ I64 c.t ∧ I64 c.b ∧ I64 c.d
def amg (n a b : Int) : Bool := decide (a ≤ n) && decide (n ≤ b)
theorem amg_iff {n a b : Int} : amg n a b = true ↔ a ≤ n ∧ n ≤ b := by unfold amg; simp
def okC (c : Cf) : Bool := amg c.m 1 64 && amg c.a 1 4 && (amg c.p 0 1048576 && amg c.g 0 1048576 && amg c.t 0 1048576) && (amg c.b 1 16 && amg c.d 0 10)
def errC (c : Cf) : Int := if okC c then 0 else 110
theorem amongC (n a b : Int) (w : World) : Calls Try.prog 48 #[.int .i64 n, .int .i64 a, .int .i64 b] w fun e w' => e = .returned (.bool (amg n a b)) ∧ w' = w := by
  unfold amg
  by_cases h : a ≤ n
  · rw [decide_eq_true h, Bool.true_and]
    go_enter Try.func48, Try.ntmps48
    go_wp2
    go_ret
    exact ⟨rfl, rfl⟩
  · rw [decide_eq_false h, Bool.false_and]
    go_enter Try.func48, Try.ntmps48
    go_wp2
    go_ret
    exact ⟨ret_same (by simp), rfl⟩
theorem allR_bd (i a : Int) (hi : I64 i) (ha : I64 a) : BdR (allR i a) := by
  unfold BdR allR
  have n1 : (0 : Nat) < 4294967296 := by decide
  have n2 : (0 : Nat) < 65536 := by decide
  have n3 : (65535 : Nat) < 65536 := by decide
  have n4 : (0 : Nat) < 256 := by decide
  have n5 : I64 0 := by unfold I64; decide
  exact ⟨n1, n1, n2, n3, n2, n3, n4, n4, hi, n5, n5, ha⟩
theorem isActionC (a : Int) (ha : I64 a) (w : World) : Calls Try.prog 49 #[.int .i64 a] w fun e w' => e = .returned (.bool (amg a 1 4)) ∧ Below w.heap.size w w' := by
  have hA := fun W => allRC 1 a W
  have hC := fun W => checkRC (allR 1 a) W (allR_bd 1 a (by unfold I64; decide) ha)
  have he : amg a 1 4 = decide ((errs (allR 1 a)).1 = 0) := by
    rw [Bool.eq_iff_iff, decide_eq_true_eq, ← okR_err, allR_ok, decide_eq_true_eq, amg_iff]
    omega
  rw [he]
  generalize (errs (allR 1 a)).1 = x at *
  generalize (errs (allR 1 a)).2 = y at *
  clear he
  simp only [allR] at hA hC
  go_enter Try.func49, Try.ntmps49
  go_wp2_with (fail)
  refine (hA _).mono ?_
  rintro e w1 ⟨rfl, hb1⟩
  go_wp2_with (fail)
  refine (hC _).mono ?_
  rintro e w2 ⟨rfl, hb2⟩
  go_wp2_with (fail)
  go_ret
  exact ⟨ret_same (by first | rfl | simp), hb1.trans (hb2.mono hb1.size)⟩
set_option maxHeartbeats 2000000 in
theorem checkCC (c : Cf) (o : BdC c) (w : World) : Calls Try.prog 36 #[.agg #[.int .i64 c.m, .int .i64 c.a, .int .i64 c.p, .int .i64 c.g, .int .i64 c.t, .int .i64 c.b, .int .i64 c.d]] w fun e w' => e = .returned (.int .i64 (errC c)) ∧ Below w.heap.size w w' := by
  have k1 := fun W => amongC c.p 0 1048576 W
  have k2 := fun W => amongC c.g 0 1048576 W
  have k3 := fun W => amongC c.t 0 1048576 W
  have k4 := fun W => amongC c.b 1 16 W
  have k5 := fun W => amongC c.d 0 10 W
  have k6 := fun W => amongC c.m 1 64 W
  have k7 := fun W => isActionC c.a o.2.1 W
  obtain ⟨E, hE⟩ : ∃ E, E = errC c := ⟨_, rfl⟩
  rw [← hE]
  have HE : Hid (E = if (amg c.m 1 64 && amg c.a 1 4 && (amg c.p 0 1048576 && amg c.g 0 1048576 && amg c.t 0 1048576) && (amg c.b 1 16 && amg c.d 0 10)) = true then 0 else 110) := hE
  clear o hE
  generalize amg c.p 0 1048576 = q1 at *
  generalize amg c.g 0 1048576 = q2 at *
  generalize amg c.t 0 1048576 = q3 at *
  generalize amg c.b 1 16 = q4 at *
  generalize amg c.d 0 10 = q5 at *
  generalize amg c.m 1 64 = q6 at *
  generalize amg c.a 1 4 = q7 at *
  go_enter Try.func36, Try.ntmps36
  go_upto_region 1 with (fail)
  have c0 : (w.alloc (.cells #[.int .i64 c.m, .int .i64 c.a, .int .i64 c.p, .int .i64 c.g, .int .i64 c.t, .int .i64 c.b, .int .i64 c.d] 24)).cell? ⟨w.heap.size, 0, none⟩ = some (.int .i64 c.m) := blk_cell (blk_new w _) rfl
  have c1 : (w.alloc (.cells #[.int .i64 c.m, .int .i64 c.a, .int .i64 c.p, .int .i64 c.g, .int .i64 c.t, .int .i64 c.b, .int .i64 c.d] 24)).cell? ⟨w.heap.size, 1, none⟩ = some (.int .i64 c.a) := blk_cell (blk_new w _) rfl
  have c2 : (w.alloc (.cells #[.int .i64 c.m, .int .i64 c.a, .int .i64 c.p, .int .i64 c.g, .int .i64 c.t, .int .i64 c.b, .int .i64 c.d] 24)).cell? ⟨w.heap.size, 2, none⟩ = some (.int .i64 c.p) := blk_cell (blk_new w _) rfl
  have c3 : (w.alloc (.cells #[.int .i64 c.m, .int .i64 c.a, .int .i64 c.p, .int .i64 c.g, .int .i64 c.t, .int .i64 c.b, .int .i64 c.d] 24)).cell? ⟨w.heap.size, 3, none⟩ = some (.int .i64 c.g) := blk_cell (blk_new w _) rfl
  have c4 : (w.alloc (.cells #[.int .i64 c.m, .int .i64 c.a, .int .i64 c.p, .int .i64 c.g, .int .i64 c.t, .int .i64 c.b, .int .i64 c.d] 24)).cell? ⟨w.heap.size, 4, none⟩ = some (.int .i64 c.t) := blk_cell (blk_new w _) rfl
  have c5 : (w.alloc (.cells #[.int .i64 c.m, .int .i64 c.a, .int .i64 c.p, .int .i64 c.g, .int .i64 c.t, .int .i64 c.b, .int .i64 c.d] 24)).cell? ⟨w.heap.size, 5, none⟩ = some (.int .i64 c.b) := blk_cell (blk_new w _) rfl
  have c6 : (w.alloc (.cells #[.int .i64 c.m, .int .i64 c.a, .int .i64 c.p, .int .i64 c.g, .int .i64 c.t, .int .i64 c.b, .int .i64 c.d] 24)).cell? ⟨w.heap.size, 6, none⟩ = some (.int .i64 c.d) := blk_cell (blk_new w _) rfl
  have HB : Hid (Below w.heap.size w (w.alloc (.cells #[.int .i64 c.m, .int .i64 c.a, .int .i64 c.p, .int .i64 c.g, .int .i64 c.t, .int .i64 c.b, .int .i64 c.d] 24))) := (Below.refl _ _).alloc (Nat.le_refl _) _
  generalize w.alloc (.cells #[.int .i64 c.m, .int .i64 c.a, .int .i64 c.p, .int .i64 c.g, .int .i64 c.t, .int .i64 c.b, .int .i64 c.d] 24) = W at *
  go_cut [3] (fun s wx => s = .bool (q1 && q2 && q3) ∧ Hid (wx = W))
  case first =>
    clear k4 k5 k6 k7
    go_wp2_with (fail)
    refine (k1 _).mono ?_
    rintro e w1 ⟨rfl, hw⟩
    obtain rfl := hw.symm
    clear hw
    cases q1
    · go_wp2_with (fail)
      go_meet
      case rel => exact ⟨by simp, rfl⟩
    · go_wp2_with (fail)
      refine (k2 _).mono ?_
      rintro e w1 ⟨rfl, hw⟩
      obtain rfl := hw.symm
      clear hw
      cases q2
      · go_wp2_with (fail)
        go_meet
        case rel => exact ⟨by simp, rfl⟩
      · go_wp2_with (fail)
        refine (k3 _).mono ?_
        rintro e w1 ⟨rfl, hw⟩
        obtain rfl := hw.symm
        clear hw
        go_wp2_with (fail)
        go_meet
        case rel => exact ⟨by simp, rfl⟩
  case rest =>
    obtain ⟨rfl, hx⟩ := hcut
    obtain rfl := hx.out.symm
    clear hx k1 k2 k3
    generalize (q1 && q2 && q3) = Q1 at *
    go_upto_region 2 with (fail)
    go_cut [4] (fun s wx => s = .bool (q4 && q5) ∧ Hid (wx = W))
    case first =>
      clear k6 k7
      go_wp2_with (fail)
      refine (k4 _).mono ?_
      rintro e w1 ⟨rfl, hw⟩
      obtain rfl := hw.symm
      clear hw
      cases q4
      · go_wp2_with (fail)
        go_meet
        case rel => exact ⟨by simp, rfl⟩
      · go_wp2_with (fail)
        refine (k5 _).mono ?_
        rintro e w1 ⟨rfl, hw⟩
        obtain rfl := hw.symm
        clear hw
        go_wp2_with (fail)
        go_meet
        case rel => exact ⟨by simp, rfl⟩
    case rest =>
      obtain ⟨rfl, hx⟩ := hcut
      obtain rfl := hx.out.symm
      clear hx k4 k5
      generalize (q4 && q5) = Q2 at *
      go_wp2_with (fail)
      refine (k6 _).mono ?_
      rintro e w1 ⟨rfl, hw⟩
      obtain rfl := hw.symm
      clear hw
      cases q6
      · go_wp2_with (fail)
        go_ret
        exact ⟨ret_int (by rw [HE.out]; rfl), HB.out⟩
      · go_wp2_with (fail)
        refine (k7 _).mono ?_
        rintro e w1 ⟨rfl, hb1⟩
        have HB1 : Hid (Below w.heap.size w w1) := HB.out.trans (hb1.mono HB.out.size)
        clear hb1
        cases q7 <;> cases Q1 <;> cases Q2
        all_goals
          go_wp2_with (fail)
          go_ret
          exact ⟨ret_int (by rw [HE.out]; rfl), HB1.out⟩
set_option maxRecDepth 20000 in
set_option maxHeartbeats 2000000 in
theorem isIdC (id : Int) (R : Ru) (B : Nat) (w : World) (hB : w.cell? ⟨B, 0, none⟩ = some (.int .i64 id)) :
    Calls Try.prog 52 #[.agg #[.int .i64 R.i, .int .u32 R.s, .int .i64 R.sl, .int .u32 R.d, .int .i64 R.dl, .int .u16 R.p.1, .int .u16 R.p.2, .int .u16 R.q.1, .int .u16 R.q.2, .int .u8 R.m.1, .int .u8 R.m.2, .int .i64 R.act], .pointer (some ⟨B, 0, none⟩)] w fun e w' => e = .returned (.bool (decide (R.i = id))) ∧ Below w.heap.size w w' := by
  have hlt := World.block_lt_of_cell? w _ hB
  have hne : ¬ B = w.heap.size := by have : B < w.heap.size := hlt; omega
  have hB1 : (w.alloc (.cells #[.int .i64 R.i, .int .u32 R.s, .int .i64 R.sl, .int .u32 R.d, .int .i64 R.dl, .int .u16 R.p.1, .int .u16 R.p.2, .int .u16 R.q.1, .int .u16 R.q.2, .int .u8 R.m.1, .int .u8 R.m.2, .int .i64 R.act] 60)).cell? ⟨B, 0, none⟩ = some (.int .i64 id) := cell_on1 ((Below.refl _ _).alloc (Nat.le_refl _) _) hB
  go_enter Try.func52, Try.ntmps52
  go_wp2_with (fail)
  go_ret
  exact ⟨ret_same (by first | rfl | (rw [Bool.eq_iff_iff]; simp)), by (repeat (first | assumption | exact Below.refl _ _ | refine Below.drew ?_ | refine bel_drewN ?_ _ | refine Below.setCell ?_ (by first | omega | (simp; done) | (simp; omega)) _ | refine Below.alloc ?_ (by first | omega | (simp; done) | (simp; omega)) _ | refine bel_of ?_ (by assumption)))⟩
end Go.Proofs.Ytfpmljgmfapoiaa
/-
  Package table: placeOf (slices.IndexFunc with a closure), mayJoin, copyOf. Written by a tool (tools/mkTbB.py).
-/
namespace Go.Proofs.Ytfpmljgmfapoiaa
open Go.RowKit
set_option linter.unusedVariables false
set_option linter.unusedSimpArgs false

set_option maxRecDepth 20000 in
set_option maxHeartbeats 8000000 in
theorem indexC (v : Value) (l : List Ru) (x : Int) (B : Nat) (w : World) (hs : SrcU w v l) (hB : w.cell? ⟨B, 0, none⟩ = some (.int .i64 x)) (hl : l.length ≤ 200000) :
    Calls Try.prog 51 #[v, .func (.func 52) #[] #[.pointer (some ⟨B, 0, none⟩)]] w fun e w' => e = .returned (.int .i64 (fnd l x)) ∧ Below w.heap.size w w' := by
  obtain ⟨ad, cap, rfl, hcap, hat⟩ := hs
  obtain ⟨A, hA⟩ : ∃ A, A = fnd l x := ⟨_, rfl⟩
  rw [← hA]
  have HA : Hid (A = fndK x (l.drop 0) 0) := hA
  clear hA
  obtain ⟨n, hn⟩ : ∃ n, n = l.length := ⟨_, rfl⟩
  have Hn : Hid (n = l.length) := hn
  have HAt : Hid (∀ (W : World), Below w.heap.size w W → ∀ k (hk : k < l.length), ∃ g off, ad = some ⟨g, off, none⟩ ∧ g < W.heap.size ∧ ∀ j, j < 12 → W.cell? ⟨g, off + (k * 12 + j), none⟩ = (encU (l[k]'hk))[j]?) := fun W hb k hk => by
    obtain ⟨g, off, e, h3⟩ := hat (by omega)
    have h0 := h3 k hk 0 (by decide)
    have hg : g < w.heap.size := World.block_lt_of_cell? w _ (h0.trans rfl)
    exact ⟨g, off, e, by have := hb.size; omega, fun j hj => by
      have := h3 k hk j hj
      obtain ⟨u, hu⟩ := encU_some (l[k]'hk) hj
      rw [hb.cell (p := ⟨g, off + (k * 12 + j), none⟩) hg]; exact this⟩
  have HI : Hid (∀ (W : World) (R : Ru), Below w.heap.size w W → Calls Try.prog 52 #[.agg #[.int .i64 R.i, .int .u32 R.s, .int .i64 R.sl, .int .u32 R.d, .int .i64 R.dl, .int .u16 R.p.1, .int .u16 R.p.2, .int .u16 R.q.1, .int .u16 R.q.2, .int .u8 R.m.1, .int .u8 R.m.2, .int .i64 R.act], .pointer (some ⟨B, 0, none⟩)] W fun e w' => e = .returned (.bool (decide (R.i = x))) ∧ Below W.heap.size W w') := fun W R hb => isIdC x R B W (cell_on1 hb hB)
  rw [← hn] at hl hcap ⊢
  have hn0 : (n : Int) ≤ 200000 := by omega
  clear hn hat hB
  go_enter Try.func51, Try.ntmps51
  go_wp2_with (fail)
  go_loopw [8] (fun i wr => ∃ k : Nat, k ≤ n ∧ i = .int .i64 k ∧ Hid (Below w.heap.size w wr) ∧ Hid (A = fndK x (l.drop k) k)) (fun i _ => n - (intOf i).toNat)
  case atStart => exact ⟨0, Nat.zero_le _, rfl, Below.refl _ _, HA.out⟩
  case round =>
    obtain ⟨k, hk, rfl, HB, HK⟩ := hrel
    by_cases hlt : k < n
    · have hkl : k < l.length := by rw [← Hn.out]; exact hlt
      obtain ⟨g, off, rfl, hg, hc⟩ := HAt.out wr HB.out k hkl
      obtain ⟨p, hp⟩ : ∃ p, p = l[k]'hkl := ⟨_, rfl⟩
      rw [← hp] at hc
      have x0 : wr.cell? ⟨g, off + k * 12, none⟩ = some (.int .i64 p.i) := hc 0 (by decide)
      have x1 : wr.cell? ⟨g, off + k * 12 + 1, none⟩ = some (.int .u32 p.s) := hc 1 (by decide)
      have x2 : wr.cell? ⟨g, off + k * 12 + 2, none⟩ = some (.int .i64 p.sl) := hc 2 (by decide)
      have x3 : wr.cell? ⟨g, off + k * 12 + 3, none⟩ = some (.int .u32 p.d) := hc 3 (by decide)
      have x4 : wr.cell? ⟨g, off + k * 12 + 4, none⟩ = some (.int .i64 p.dl) := hc 4 (by decide)
      have x5 : wr.cell? ⟨g, off + k * 12 + 5, none⟩ = some (.int .u16 p.p.1) := hc 5 (by decide)
      have x6 : wr.cell? ⟨g, off + k * 12 + 6, none⟩ = some (.int .u16 p.p.2) := hc 6 (by decide)
      have x7 : wr.cell? ⟨g, off + k * 12 + 7, none⟩ = some (.int .u16 p.q.1) := hc 7 (by decide)
      have x8 : wr.cell? ⟨g, off + k * 12 + 8, none⟩ = some (.int .u16 p.q.2) := hc 8 (by decide)
      have x9 : wr.cell? ⟨g, off + k * 12 + 9, none⟩ = some (.int .u8 p.m.1) := hc 9 (by decide)
      have x10 : wr.cell? ⟨g, off + k * 12 + 10, none⟩ = some (.int .u8 p.m.2) := hc 10 (by decide)
      have x11 : wr.cell? ⟨g, off + k * 12 + 11, none⟩ = some (.int .i64 p.act) := hc 11 (by decide)
      have hlt' : (k : Int) < (n : Int) := by omega
      have hI := HI.out wr p HB.out
      clear hc HI
      by_cases hx : p.i = x
      · have HV : Hid (A = (k : Int)) := HK.out.trans (fndK_hit hkl (by rw [← hp]; exact hx))
        rw [decide_eq_true hx] at hI
        clear hp hx HK HA HAt
        go_wp2_with (fail)
        refine hI.mono ?_
        rintro e w1 ⟨rfl, hb1⟩
        have HB1 : Hid (Below w.heap.size w w1) := HB.out.trans (hb1.mono HB.out.size)
        clear hb1 x0 x1 x2 x3 x4 x5 x6 x7 x8 x9 x10 x11
        go_wp2_with (fail)
        go_ret
        exact ⟨ret_int HV.out.symm, HB1.out⟩
      · have HK2 : Hid (A = fndK x (l.drop (k + 1)) (k + 1)) := HK.out.trans (fndK_no hkl (by rw [← hp]; exact hx))
        rw [decide_eq_false hx] at hI
        clear hp hx HK HA HAt hkl
        go_wp2_with (fail)
        refine hI.mono ?_
        rintro e w1 ⟨rfl, hb1⟩
        have HB1 : Hid (Below w.heap.size w w1) := HB.out.trans (hb1.mono HB.out.size)
        clear hb1 x0 x1 x2 x3 x4 x5 x6 x7 x8 x9 x10 x11
        go_wp2_with (fail)
        go_roundw
        case rel => exact ⟨k + 1, by omega, by go_num, HB1.out, HK2.out⟩
        case measure => simp [intOf]; omega
    · obtain rfl : k = n := by omega
      have HV : Hid (A = -1) := HK.out.trans (fndK_end (by rw [← Hn.out]; exact Nat.le_refl _))
      clear HK HA HAt HI
      go_wp2_with (fail)
      go_ret
      exact ⟨ret_int HV.out.symm, HB.out⟩
theorem placeOfC (v : Value) (l : List Ru) (x : Int) (w : World) (hs : SrcU w v l) (hl : l.length ≤ 200000) :
    Calls Try.prog 40 #[v, .int .i64 x] w fun e w' => e = .returned (.int .i64 (fnd l x)) ∧ Below w.heap.size w w' := by
  have hI := indexC v l x w.heap.size (w.alloc (.cells #[.int .i64 x] 3)) (hs.keep ((Below.refl _ _).alloc (Nat.le_refl _) _)) (blk_cell (blk_new w _) rfl) hl
  generalize fnd l x = A at *
  obtain ⟨ad, cap, rfl, hcap, hat⟩ := hs
  clear hat
  generalize l.length = n at *
  go_enter Try.func40, Try.ntmps40
  go_wp2_with (fail)
  refine hI.mono ?_
  rintro e w1 ⟨rfl, hb1⟩
  have HB1 : Hid (Below w.heap.size w w1) := ((Below.refl _ _).alloc (Nat.le_refl _) _).trans (hb1.mono (by simp))
  clear hb1 hI
  go_wp2_with (fail)
  go_ret
  exact ⟨rfl, HB1.out⟩
set_option maxRecDepth 20000 in
set_option maxHeartbeats 2000000 in
theorem mayJoinC (v : Value) (l : List Ru) (R : Ru) (w : World) (b : BdR R) (hs : SrcU w v l) (hl : l.length ≤ 200000) :
    Calls Try.prog 44 #[v, .agg #[.int .i64 R.i, .int .u32 R.s, .int .i64 R.sl, .int .u32 R.d, .int .i64 R.dl, .int .u16 R.p.1, .int .u16 R.p.2, .int .u16 R.q.1, .int .u16 R.q.2, .int .u8 R.m.1, .int .u8 R.m.2, .int .i64 R.act]] w fun e w' => e = .returned (.int .i64 (joinE l R)) ∧ Below w.heap.size w w' := by
  have hC := checkRC R (w.alloc (.cells #[.int .i64 R.i, .int .u32 R.s, .int .i64 R.sl, .int .u32 R.d, .int .i64 R.dl, .int .u16 R.p.1, .int .u16 R.p.2, .int .u16 R.q.1, .int .u16 R.q.2, .int .u8 R.m.1, .int .u8 R.m.2, .int .i64 R.act] 60)) b
  have HP : Hid (∀ W, Below w.heap.size w W → Calls Try.prog 40 #[v, .int .i64 R.i] W fun e w' => e = .returned (.int .i64 (fnd l R.i)) ∧ Below W.heap.size W w') := fun W hb => placeOfC v l R.i W (hs.keep hb) hl
  have hr := fnd_range l R.i
  obtain ⟨E, hE⟩ : ∃ E, E = joinE l R := ⟨_, rfl⟩
  rw [← hE]
  have HE : Hid (E = if (errs R).1 = 0 then (if 0 ≤ fnd l R.i then 111 else 0) else (errs R).1) := hE
  clear hE
  generalize (errs R).1 = c at *
  generalize (errs R).2 = d at *
  generalize fnd l R.i = A at *
  obtain ⟨ad, cap, rfl, hcap, hat⟩ := hs
  clear hat b
  generalize l.length = n at *
  by_cases hc : c = 0
  · subst hc
    go_enter Try.func44, Try.ntmps44
    go_wp2_with (fail)
    refine hC.mono ?_
    rintro e w1 ⟨rfl, hb1⟩
    have HB1 : Hid (Below w.heap.size w w1) := ((Below.refl _ _).alloc (Nat.le_refl _) _).trans (hb1.mono (by simp))
    have x0 : w1.cell? ⟨w.heap.size, 0, none⟩ = some (.int .i64 R.i) := cell_on1 hb1 (blk_cell (blk_new w _) rfl)
    have hP := HP.out w1 HB1.out
    clear hb1 hC HP
    go_wp2_with (fail)
    refine hP.mono ?_
    rintro e w2 ⟨rfl, hb2⟩
    have HB2 : Hid (Below w.heap.size w w2) := HB1.out.trans (hb2.mono HB1.out.size)
    clear hb2 x0 hP
    by_cases hA : 0 ≤ A
    · have HV : Hid (E = 111) := by show _ = _; rw [HE.out]; simp [hA]
      clear hr HE
      go_wp2_with (fail)
      go_ret
      exact ⟨ret_int HV.out.symm, HB2.out⟩
    · have HV : Hid (E = 0) := by show _ = _; rw [HE.out]; simp [hA]
      clear hr HE
      go_wp2_with (fail)
      go_ret
      exact ⟨ret_int HV.out.symm, HB2.out⟩
  · have HV : Hid (E = c) := by show _ = _; rw [HE.out, if_neg hc]
    clear HE
    have hc' : (c != 0) = true := by simpa using hc
    go_enter Try.func44, Try.ntmps44
    go_wp2_with (fail)
    refine hC.mono ?_
    rintro e w1 ⟨rfl, hb1⟩
    have HB1 : Hid (Below w.heap.size w w1) := ((Below.refl _ _).alloc (Nat.le_refl _) _).trans (hb1.mono (by simp))
    clear hb1 hC HP hr
    go_wp2_with (fail)
    go_ret
    exact ⟨ret_int HV.out.symm, HB1.out⟩
/-- A row that was made, and filled by copy. -/
theorem run_fillU (w : World) (ty : TypeId) (u : Value) (k : List Ru) (hs : SrcU w u k) (hl : k.length ≤ 200000) (z : Array Value) :
    ∃ w', (Builtin.copy_ #[46, 46] ty #[.slice (some ⟨w.heap.size, 0, none⟩) k.length k.length, u]).run Try.prog (w.alloc (.cells (madeCells z (k.length * 12)) 60)) = .ok (goInt k.length) w' ∧
      RowU w' w.heap.size (.slice (some ⟨w.heap.size, 0, none⟩) k.length k.length) k ∧ Below w.heap.size w w' := by
  obtain ⟨i0, hi, hz0, hz1, hz2⟩ := info_parts infoU
  have hsu := hs.keep ((Below.refl _ _).alloc (Nat.le_refl _) (.cells (madeCells z (k.length * 12)) 60))
  have hg := blk_new w (.cells (madeCells z (k.length * 12)) 60)
  have hbW : Below w.heap.size w (w.alloc (.cells (madeCells z (k.length * 12)) 60)) := (Below.refl _ _).alloc (Nat.le_refl _) _
  have hsz := size_madeCells z (k.length * 12)
  generalize madeCells z (k.length * 12) = cur at *
  generalize w.alloc (.cells cur 60) = W at *
  clear hs
  obtain ⟨ad, c, rfl, hc, h2⟩ := id hsu
  by_cases h0 : 0 < k.length
  · obtain ⟨g2, off, rfl, h3⟩ := h2 h0
    have hl2 := run_loadCells_list (P := Try.prog) W ⟨g2, off, none⟩ (flatU k) hsu.flat
    rw [flatU_length] at hl2
    have hst := run_storeCells_at Try.prog w.heap.size 0 60 (flatU k) 0 cur W hg (by rw [flatU_length]; omega) (flatU_one k)
    refine ⟨W.setRow w.heap.size (cur.toList.take (0 + 0) ++ flatU k ++ cur.toList.drop (0 + 0 + (flatU k).length)).toArray, ?_, ?_, ?_⟩
    · simp [Builtin.copy_, Try.runUnderlying46, Builtin.lenOf, Builtin.firstCells, sizeOf, typeInfo, hi, hz1, hl2]
      simp at hst
      rw [hst]
      simp [Result.andThen]
    · have e : cur.toList.drop (0 + 0 + (flatU k).length) = [] := List.drop_eq_nil_of_le (by rw [flatU_length, Array.length_toList]; omega)
      rw [e, List.append_nil]
      have := setRow_heap W w.heap.size cur (cur.toList.take (0 + 0) ++ flatU k).toArray _ _ hg
      exact ⟨flatU_length k, .inr ⟨w.heap.size, k.length, _, rfl, Nat.le_refl _, this, Nat.le_refl _, by unfold maxLen; omega, by simp [flatU_length], by rw [← flatU_length]; simp⟩⟩
    · exact hbW.trans ⟨rfl, rfl, rfl, by simp, fun x hx => setRow_other W w.heap.size x _ (by omega)⟩
  · obtain rfl : k = [] := List.eq_nil_of_length_eq_zero (by omega)
    refine ⟨W, ?_, ⟨rfl, .inr ⟨w.heap.size, 0, cur, rfl, Nat.le_refl _, hg, Nat.le_refl _, by unfold maxLen; omega, by simpa using hsz, by simp [flatU]⟩⟩, hbW⟩
    have hl : ∀ (x : Addr), (loadCells x 0).run Try.prog W = .ok #[] W := fun x => by simpa using run_loadCells_list (P := Try.prog) W x [] (by simp)
    cases ad <;> simp [Builtin.copy_, Try.runUnderlying46, Builtin.lenOf, Builtin.firstCells, sizeOf, typeInfo, hi, hz1, storeCells, hl]
set_option maxHeartbeats 1000000 in
theorem copyOfC (v : Value) (l : List Ru) (w : World) (hs : SrcU w v l) (hl : l.length ≤ 200000) :
    Calls Try.prog 45 #[v] w fun e w' => ∃ v' : Value, e = .returned v' ∧ RowU w' w.heap.size v' l ∧ Below w.heap.size w w' := by
  obtain ⟨i0, hi, hz0, hz1, hz2⟩ := info_parts infoU
  have hmk := fun W => run_make (P := Try.prog) W 46 60 i0 _ Try.underlying46 hi hz0 .i64 .i64 l.length l.length (by omega) (Int.le_refl _) (by rw [hz2]; omega) (by omega)
  simp only [hz1, Int.toNat_natCast] at hmk
  obtain ⟨w1, hr, HR, HB⟩ := run_fillU w 3 v l hs hl #[.int .i64 0, .int .u32 0, .int .i64 0, .int .u32 0, .int .i64 0, .int .u16 0, .int .u16 0, .int .u16 0, .int .u16 0, .int .u8 0, .int .u8 0, .int .i64 0]
  have HR1 : Hid (RowU w1 w.heap.size (.slice (some ⟨w.heap.size, 0, none⟩) l.length l.length) l) := HR
  have HB1 : Hid (Below w.heap.size w w1) := HB
  obtain ⟨ad, cap, rfl, hcap, hat⟩ := hs
  clear hat HR HB hi hz0 hz1 hz2
  go_enter Try.func45, Try.ntmps45
  go_wp2_with (fail)
  go_ret
  exact ⟨_, rfl, HR1.out, HB1.out⟩
end Go.Proofs.Ytfpmljgmfapoiaa
/-
  A table in memory; what its calls that only read tell: New, Find, At, Rules, Clone.
-/
namespace Go.Proofs.Ytfpmljgmfapoiaa
open Go.RowKit
set_option linter.unusedVariables false
set_option linter.unusedSimpArgs false

/-- The table in block t: Max, Default, its rules in the row v. -/
def Tab (w : World) (t : Nat) (v : Value) (M A : Int) (l : List Ru) : Prop :=
  w.heap[t]? = some (.cells #[.int .i64 M, .int .i64 A, v] 106 (0, 0)) ∧ RowU w 0 v l ∧ v.ownBlock ≠ some t
theorem Tab.on {w w1 : World} {t : Nat} {v : Value} {M A : Int} {l : List Ru} (h : Tab w t v M A l) (hb : Below w.heap.size w w1) : Tab w1 t v M A l :=
  ⟨blk_on h.1 hb, h.2.1.on hb, h.2.2⟩
theorem Tab.lt {w : World} {t : Nat} {v : Value} {M A : Int} {l : List Ru} (h : Tab w t v M A l) : t < w.heap.size := blk_lt h.1
theorem Tab.own {w : World} {t : Nat} {v : Value} {M A : Int} {l : List Ru} (h : Tab w t v M A l) {k : Nat} (e : v.ownBlock = some k) : k < w.heap.size := (h.2.1.lt k e).2
/-- What a call that writes the table leaves as it was; v: its row ahead, v': behind. -/
structure Moved (w w' : World) (t : Nat) (v v' : Value) : Prop where
  os : w'.os = w.os
  tape : w'.tape = w.tape
  output : w'.output = w.output
  size : w.heap.size ≤ w'.heap.size
  block : ∀ k, k < w.heap.size → k ≠ t → v.ownBlock ≠ some k → w'.heap[k]? = w.heap[k]?
  own : ∀ k, v'.ownBlock = some k → v.ownBlock = some k ∨ w.heap.size ≤ k
theorem Moved.of_below {w w' : World} {t : Nat} {v : Value} (h : Below w.heap.size w w') : Moved w w' t v v :=
  ⟨h.os, h.tape, h.output, h.size, fun k hk _ _ => h.block k hk, fun k e => .inl e⟩
theorem Moved.below {w w' : World} {t B : Nat} {v v' : Value} (h : Moved w w' t v v') (hB : B ≤ w.heap.size) (ht : B ≤ t) (hv : ∀ k, v.ownBlock = some k → B ≤ k) : Below B w w' :=
  ⟨h.os, h.tape, h.output, h.size, fun k hk => h.block k (by omega) (by omega) (fun e => by have := hv k e; omega)⟩
theorem Moved.below' {w w0 w' : World} {t B : Nat} {v v' : Value} (h : Moved w w' t v v') (hb : Below B w0 w) (hB : B ≤ w.heap.size) (ht : B ≤ t) (hv : ∀ k, v.ownBlock = some k → B ≤ k) : Below B w0 w' := hb.trans (h.below hB ht hv)
theorem Moved.ge {w w' : World} {t B : Nat} {v v' : Value} (h : Moved w w' t v v') (hB : B ≤ w.heap.size) (hv : ∀ k, v.ownBlock = some k → B ≤ k) : ∀ k, v'.ownBlock = some k → B ≤ k := fun k e => by
  rcases h.own k e with h1 | h1
  · exact hv k h1
  · omega
theorem Moved.trans {w w1 w2 : World} {t : Nat} {v v1 v2 : Value} (h : Moved w w1 t v v1) (g : Moved w1 w2 t v1 v2) : Moved w w2 t v v2 :=
  ⟨g.os.trans h.os, g.tape.trans h.tape, g.output.trans h.output, Nat.le_trans h.size g.size, fun k hk ht hv => by
    rw [g.block k (Nat.lt_of_lt_of_le hk h.size) ht (fun e => by rcases h.own k e with h1 | h1
                                                                 · exact hv h1
                                                                 · omega), h.block k hk ht hv], fun k e => by
    rcases g.own k e with h1 | h1
    · exact h.own k h1
    · exact .inr (Nat.le_trans h.size h1)⟩
/-- A block that is neither the table's nor its row's. -/
def Kb (w : World) (t : Nat) (v : Value) (B : Nat) (o : Obj) : Prop := w.heap[B]? = some o ∧ B ≠ t ∧ v.ownBlock ≠ some B
theorem Kb.lt {w : World} {t : Nat} {v : Value} {B : Nat} {o : Obj} (h : Kb w t v B o) : B < w.heap.size := blk_lt h.1
theorem Kb.moved {w w' : World} {t : Nat} {v v' : Value} {B : Nat} {o : Obj} (h : Kb w t v B o) (m : Moved w w' t v v') : Kb w' t v' B o := by
  refine ⟨by rw [m.block B h.lt h.2.1 h.2.2]; exact h.1, h.2.1, fun e => ?_⟩
  rcases m.own B e with h1 | h1
  · exact h.2.2 h1
  · have := h.lt; omega
theorem Kb.on {w w1 : World} {t : Nat} {v : Value} {B : Nat} {o : Obj} (h : Kb w t v B o) (hb : Below w.heap.size w w1) : Kb w1 t v B o := ⟨blk_on h.1 hb, h.2.1, h.2.2⟩
/-- A source whose block is neither the table's nor its row's. -/
def Ks (w : World) (t : Nat) (v : Value) (u : Value) (l : List Ru) : Prop := SrcU w u l ∧ ∀ k, u.ownBlock = some k → k < w.heap.size → k ≠ t ∧ v.ownBlock ≠ some k
theorem Ks.moved {w w' : World} {t : Nat} {v v' u : Value} {l : List Ru} (h : Ks w t v u l) (m : Moved w w' t v v') (hz : ∀ k, u.ownBlock = some k → k < w.heap.size) : Ks w' t v' u l :=
  ⟨h.1.stay (fun k e hk => m.block k hk (h.2 k e hk).1 (h.2 k e hk).2), fun k e _ => ⟨(h.2 k e (hz k e)).1, fun e' => by
    rcases m.own k e' with h1 | h1
    · exact (h.2 k e (hz k e)).2 h1
    · have := hz k e; omega⟩⟩
set_option maxHeartbeats 1000000 in
theorem newOk (c : Cf) (o : BdC c) (h : okC c = true) (w : World) : Calls Try.prog 19 #[.agg #[.int .i64 c.m, .int .i64 c.a, .int .i64 c.p, .int .i64 c.g, .int .i64 c.t, .int .i64 c.b, .int .i64 c.d]] w fun e w' =>
    ∃ t : Nat, e = .returned (.tuple #[.pointer (some ⟨t, 0, none⟩), .int .i64 0]) ∧ Tab w' t (.slice none 0 0) c.m c.a [] ∧ w.heap.size ≤ t ∧ Below w.heap.size w w' := by
  have hC := checkCC c o (w.alloc (.cells #[.int .i64 c.m, .int .i64 c.a, .int .i64 c.p, .int .i64 c.g, .int .i64 c.t, .int .i64 c.b, .int .i64 c.d] 24))
  rw [show errC c = 0 by unfold errC; rw [h]; rfl] at hC
  clear h o
  go_enter Try.func19, Try.ntmps19
  go_wp2_with (fail)
  refine hC.mono ?_
  rintro e w1 ⟨rfl, hb1⟩
  have HB1 : Hid (Below w.heap.size w w1) := ((Below.refl _ _).alloc (Nat.le_refl _) _).trans (hb1.mono (by simp))
  have x0 : w1.cell? ⟨w.heap.size, 0, none⟩ = some (.int .i64 c.m) := cell_on1 hb1 (blk_cell (blk_new w _) rfl)
  have x1 : w1.cell? ⟨w.heap.size, 1, none⟩ = some (.int .i64 c.a) := cell_on1 hb1 (blk_cell (blk_new w _) rfl)
  clear hb1 hC
  go_wp2_with (fail)
  refine bodyPost_ret (v := .tuple #[.pointer (some ⟨w1.heap.size, 0, none⟩), .int .i64 0]) (by simp [results, Try.results19, go_sem]) rfl ?_
  exact ⟨_, rfl, ⟨blk_new w1 _, RowU.nil _ _, by simp [Value.ownBlock]⟩, HB1.out.size, HB1.out.alloc HB1.out.size _⟩
theorem newBad (c : Cf) (o : BdC c) (h : okC c = false) (w : World) : Calls Try.prog 19 #[.agg #[.int .i64 c.m, .int .i64 c.a, .int .i64 c.p, .int .i64 c.g, .int .i64 c.t, .int .i64 c.b, .int .i64 c.d]] w fun e w' =>
    e = .returned (.tuple #[.pointer none, .int .i64 110]) ∧ Below w.heap.size w w' := by
  have hC := checkCC c o (w.alloc (.cells #[.int .i64 c.m, .int .i64 c.a, .int .i64 c.p, .int .i64 c.g, .int .i64 c.t, .int .i64 c.b, .int .i64 c.d] 24))
  rw [show errC c = 110 by unfold errC; rw [h]; rfl] at hC
  clear h o
  go_enter Try.func19, Try.ntmps19
  go_wp2_with (fail)
  refine hC.mono ?_
  rintro e w1 ⟨rfl, hb1⟩
  have HB1 : Hid (Below w.heap.size w w1) := ((Below.refl _ _).alloc (Nat.le_refl _) _).trans (hb1.mono (by simp))
  clear hb1 hC
  go_wp2_with (fail)
  refine bodyPost_ret (v := .tuple #[.pointer none, .int .i64 110]) (by simp [results, Try.results19, go_sem]) rfl ?_
  exact ⟨rfl, HB1.out⟩
theorem blk3 {w : World} {B : Nat} {v0 v1 v2 : Value} {t : TypeId} {fr : Nat × Nat} (h : w.heap[B]? = some (.cells #[v0, v1, v2] t fr)) : w.cell? ⟨B, 0, none⟩ = some v0 ∧ w.cell? ⟨B, 1, none⟩ = some v1 ∧ w.cell? ⟨B, 2, none⟩ = some v2 := ⟨blk_cell h rfl, blk_cell h rfl, blk_cell h rfl⟩
theorem findC (t : Nat) (v : Value) (M A : Int) (l : List Ru) (x : Int) (w : World) (h : Tab w t v M A l) (hl : l.length ≤ 200000) :
    Calls Try.prog 23 #[.pointer (some ⟨t, 0, none⟩), .int .i64 x] w fun e w' => e = .returned (.int .i64 (fnd l x)) ∧ Below w.heap.size w w' := by
  have hP := placeOfC v l x w h.2.1.src hl
  obtain ⟨c0, c1, c2⟩ := blk3 h.1
  generalize fnd l x = F at *
  obtain ⟨ad, cap, rfl, hcap, hat⟩ := h.2.1.src
  clear hat h
  generalize l.length = n at *
  go_enter Try.func23, Try.ntmps23
  go_wp2_with (fail)
  refine hP.mono ?_
  rintro e w1 ⟨rfl, hb1⟩
  have HB1 : Hid (Below w.heap.size w w1) := hb1
  clear hb1 hP c0 c1 c2
  go_wp2_with (fail)
  go_ret
  exact ⟨rfl, HB1.out⟩
theorem rulesC (t : Nat) (v : Value) (M A : Int) (l : List Ru) (w : World) (h : Tab w t v M A l) (hl : l.length ≤ 200000) :
    Calls Try.prog 31 #[.pointer (some ⟨t, 0, none⟩)] w fun e w' => ∃ v' : Value, e = .returned v' ∧ RowU w' w.heap.size v' l ∧ Below w.heap.size w w' := by
  have hP := copyOfC v l w h.2.1.src hl
  obtain ⟨c0, c1, c2⟩ := blk3 h.1
  obtain ⟨ad, cap, rfl, hcap, hat⟩ := h.2.1.src
  obtain ⟨n, hn⟩ : ∃ n, n = l.length := ⟨_, rfl⟩
  rw [← hn] at hP c2
  clear hat h hn
  go_enter Try.func31, Try.ntmps31
  go_wp2_with (fail)
  refine hP.mono ?_
  rintro e w1 ⟨v', rfl, hr1, hb1⟩
  have HB1 : Hid (Below w.heap.size w w1) := hb1
  have HR1 : Hid (RowU w1 w.heap.size v' l) := hr1
  clear hb1 hr1 hP c0 c1 c2
  go_wp2_with (fail)
  go_ret
  exact ⟨_, rfl, HR1.out, HB1.out⟩
theorem at_out (t : Nat) (v : Value) (M A : Int) (l : List Ru) (p : Int) (w : World) (h : Tab w t v M A l) (hl : l.length ≤ 200000) (hp : ¬ (0 ≤ p ∧ p ≤ (l.length : Int) - 1)) :
    Calls Try.prog 34 #[.pointer (some ⟨t, 0, none⟩), .int .i64 p] w fun e w' => e = .returned (.tuple #[.agg #[.int .i64 0, .int .u32 0, .int .i64 0, .int .u32 0, .int .i64 0, .int .u16 0, .int .u16 0, .int .u16 0, .int .u16 0, .int .u8 0, .int .u8 0, .int .i64 0], .int .i64 112]) ∧ Below w.heap.size w w' := by
  have hA := fun W => amongC p 0 ((l.length : Int) - 1) W
  rw [show amg p 0 ((l.length : Int) - 1) = false by rw [Bool.eq_false_iff]; exact fun e => hp (amg_iff.1 e)] at hA
  have h1 := h.on ((Below.refl _ _).alloc (Nat.le_refl _) (.cells #[.int .i64 0, .int .u32 0, .int .i64 0, .int .u32 0, .int .i64 0, .int .u16 0, .int .u16 0, .int .u16 0, .int .u16 0, .int .u8 0, .int .u8 0, .int .i64 0] 60))
  obtain ⟨c0, c1, c2⟩ := blk3 h1.1
  have hlt := h.lt
  have hne : ¬ t = w.heap.size := by omega
  obtain ⟨ad, cap, rfl, hcap, hat⟩ := h.2.1.src
  clear hat h h1 hp
  generalize l.length = n at *
  have hn0 : (n : Int) ≤ 200000 := by omega
  go_enter Try.func34, Try.ntmps34
  go_wp2_with (fail)
  refine (hA _).mono ?_
  rintro e w1 ⟨rfl, hw⟩
  obtain rfl := hw.symm
  clear hw
  have hZZ := blk_new w (.cells #[.int .i64 0, .int .u32 0, .int .i64 0, .int .u32 0, .int .i64 0, .int .u16 0, .int .u16 0, .int .u16 0, .int .u16 0, .int .u8 0, .int .u8 0, .int .i64 0] 60)
  go_wp2_with (refine wpList_store_blk rfl 60 (.tmp 4) (.tmp 18) rfl w.heap.size 0 #[.int .i64 0, .int .u32 0, .int .i64 0, .int .u32 0, .int .i64 0, .int .u16 0, .int .u16 0, .int .u16 0, .int .u16 0, .int .u8 0, .int .u8 0, .int .i64 0] #[.int .i64 0, .int .u32 0, .int .i64 0, .int .u32 0, .int .i64 0, .int .u16 0, .int .u16 0, .int .u16 0, .int .u16 0, .int .u8 0, .int .u8 0, .int .i64 0] rfl rfl 60 _ hZZ (Nat.le_of_ble_eq_true rfl) rfl (by kernel_rfl) rfl ?_; intro w8 hw8 how8)
  exact bodyPost_ret (results_blk2 Try.results34 rfl hw8 Try.underlying60 rfl (by kernel_rfl)) rfl ⟨rfl, ((Below.refl _ _).alloc (Nat.le_refl _) _).trans (how8.below (Nat.le_refl _))⟩
set_option maxRecDepth 20000 in
set_option maxHeartbeats 2000000 in
theorem at_in (t : Nat) (v : Value) (M A : Int) (l : List Ru) (k : Nat) (w : World) (h : Tab w t v M A l) (hl : l.length ≤ 200000) (hk : k < l.length) (p : Ru) (hp : p = l[k]'hk) :
    Calls Try.prog 34 #[.pointer (some ⟨t, 0, none⟩), .int .i64 k] w fun e w' => e = .returned (.tuple #[.agg #[.int .i64 p.i, .int .u32 p.s, .int .i64 p.sl, .int .u32 p.d, .int .i64 p.dl, .int .u16 p.p.1, .int .u16 p.p.2, .int .u16 p.q.1, .int .u16 p.q.2, .int .u8 p.m.1, .int .u8 p.m.2, .int .i64 p.act], .int .i64 0]) ∧ Below w.heap.size w w' := by
  have hA := fun W => amongC (k : Int) 0 ((l.length : Int) - 1) W
  rw [show amg (k : Int) 0 ((l.length : Int) - 1) = true from amg_iff.2 (by omega)] at hA
  have h1 := h.on ((Below.refl _ _).alloc (Nat.le_refl _) (.cells #[.int .i64 0, .int .u32 0, .int .i64 0, .int .u32 0, .int .i64 0, .int .u16 0, .int .u16 0, .int .u16 0, .int .u16 0, .int .u8 0, .int .u8 0, .int .i64 0] 60))
  obtain ⟨c0, c1, c2⟩ := blk3 h1.1
  have hlt := h.lt
  have hne : ¬ t = w.heap.size := by omega
  obtain ⟨ad, cap, rfl, hcap, hat⟩ := h1.2.1.form
  obtain ⟨g, rfl, _, hg, hc⟩ := hat (by omega)
  have hc1 := hc k hk
  rw [← hp] at hc1
  clear hc hat
  obtain ⟨n, hn⟩ : ∃ n, n = l.length := ⟨_, rfl⟩
  rw [← hn] at hA c2 hcap hl hk
  have hlt' : (k : Int) < (n : Int) := by omega
  have hn0 : (n : Int) ≤ 200000 := by omega
  have x0 : (w.alloc (.cells #[.int .i64 0, .int .u32 0, .int .i64 0, .int .u32 0, .int .i64 0, .int .u16 0, .int .u16 0, .int .u16 0, .int .u16 0, .int .u8 0, .int .u8 0, .int .i64 0] 60)).cell? ⟨g, k * 12, none⟩ = some (.int .i64 p.i) := hc1 0 (by decide)
  have x1 : (w.alloc (.cells #[.int .i64 0, .int .u32 0, .int .i64 0, .int .u32 0, .int .i64 0, .int .u16 0, .int .u16 0, .int .u16 0, .int .u16 0, .int .u8 0, .int .u8 0, .int .i64 0] 60)).cell? ⟨g, k * 12 + 1, none⟩ = some (.int .u32 p.s) := hc1 1 (by decide)
  have x2 : (w.alloc (.cells #[.int .i64 0, .int .u32 0, .int .i64 0, .int .u32 0, .int .i64 0, .int .u16 0, .int .u16 0, .int .u16 0, .int .u16 0, .int .u8 0, .int .u8 0, .int .i64 0] 60)).cell? ⟨g, k * 12 + 2, none⟩ = some (.int .i64 p.sl) := hc1 2 (by decide)
  have x3 : (w.alloc (.cells #[.int .i64 0, .int .u32 0, .int .i64 0, .int .u32 0, .int .i64 0, .int .u16 0, .int .u16 0, .int .u16 0, .int .u16 0, .int .u8 0, .int .u8 0, .int .i64 0] 60)).cell? ⟨g, k * 12 + 3, none⟩ = some (.int .u32 p.d) := hc1 3 (by decide)
  have x4 : (w.alloc (.cells #[.int .i64 0, .int .u32 0, .int .i64 0, .int .u32 0, .int .i64 0, .int .u16 0, .int .u16 0, .int .u16 0, .int .u16 0, .int .u8 0, .int .u8 0, .int .i64 0] 60)).cell? ⟨g, k * 12 + 4, none⟩ = some (.int .i64 p.dl) := hc1 4 (by decide)
  have x5 : (w.alloc (.cells #[.int .i64 0, .int .u32 0, .int .i64 0, .int .u32 0, .int .i64 0, .int .u16 0, .int .u16 0, .int .u16 0, .int .u16 0, .int .u8 0, .int .u8 0, .int .i64 0] 60)).cell? ⟨g, k * 12 + 5, none⟩ = some (.int .u16 p.p.1) := hc1 5 (by decide)
  have x6 : (w.alloc (.cells #[.int .i64 0, .int .u32 0, .int .i64 0, .int .u32 0, .int .i64 0, .int .u16 0, .int .u16 0, .int .u16 0, .int .u16 0, .int .u8 0, .int .u8 0, .int .i64 0] 60)).cell? ⟨g, k * 12 + 6, none⟩ = some (.int .u16 p.p.2) := hc1 6 (by decide)
  have x7 : (w.alloc (.cells #[.int .i64 0, .int .u32 0, .int .i64 0, .int .u32 0, .int .i64 0, .int .u16 0, .int .u16 0, .int .u16 0, .int .u16 0, .int .u8 0, .int .u8 0, .int .i64 0] 60)).cell? ⟨g, k * 12 + 7, none⟩ = some (.int .u16 p.q.1) := hc1 7 (by decide)
  have x8 : (w.alloc (.cells #[.int .i64 0, .int .u32 0, .int .i64 0, .int .u32 0, .int .i64 0, .int .u16 0, .int .u16 0, .int .u16 0, .int .u16 0, .int .u8 0, .int .u8 0, .int .i64 0] 60)).cell? ⟨g, k * 12 + 8, none⟩ = some (.int .u16 p.q.2) := hc1 8 (by decide)
  have x9 : (w.alloc (.cells #[.int .i64 0, .int .u32 0, .int .i64 0, .int .u32 0, .int .i64 0, .int .u16 0, .int .u16 0, .int .u16 0, .int .u16 0, .int .u8 0, .int .u8 0, .int .i64 0] 60)).cell? ⟨g, k * 12 + 9, none⟩ = some (.int .u8 p.m.1) := hc1 9 (by decide)
  have x10 : (w.alloc (.cells #[.int .i64 0, .int .u32 0, .int .i64 0, .int .u32 0, .int .i64 0, .int .u16 0, .int .u16 0, .int .u16 0, .int .u16 0, .int .u8 0, .int .u8 0, .int .i64 0] 60)).cell? ⟨g, k * 12 + 10, none⟩ = some (.int .u8 p.m.2) := hc1 10 (by decide)
  have x11 : (w.alloc (.cells #[.int .i64 0, .int .u32 0, .int .i64 0, .int .u32 0, .int .i64 0, .int .u16 0, .int .u16 0, .int .u16 0, .int .u16 0, .int .u8 0, .int .u8 0, .int .i64 0] 60)).cell? ⟨g, k * 12 + 11, none⟩ = some (.int .i64 p.act) := hc1 11 (by decide)
  clear hp hc1 h h1 hn
  have hZZ := blk_new w (.cells #[.int .i64 0, .int .u32 0, .int .i64 0, .int .u32 0, .int .i64 0, .int .u16 0, .int .u16 0, .int .u16 0, .int .u16 0, .int .u8 0, .int .u8 0, .int .i64 0] 60)
  have HB0 : Hid (Below w.heap.size w (w.alloc (.cells #[.int .i64 0, .int .u32 0, .int .i64 0, .int .u32 0, .int .i64 0, .int .u16 0, .int .u16 0, .int .u16 0, .int .u16 0, .int .u8 0, .int .u8 0, .int .i64 0] 60))) := (Below.refl _ _).alloc (Nat.le_refl _) _
  go_enter Try.func34, Try.ntmps34
  go_upto_region 1 with (fail)
  generalize w.alloc (.cells #[.int .i64 0, .int .u32 0, .int .i64 0, .int .u32 0, .int .i64 0, .int .u16 0, .int .u16 0, .int .u16 0, .int .u16 0, .int .u8 0, .int .u8 0, .int .i64 0] 60) = W0 at *
  go_wp2_with (fail)
  refine (hA _).mono ?_
  rintro e w1 ⟨rfl, hw⟩
  obtain rfl := hw.symm
  clear hw
  go_wp2_with (refine wpList_store_blk rfl 60 (.tmp 4) (.tmp 25) rfl w.heap.size 0 #[.int .i64 p.i, .int .u32 p.s, .int .i64 p.sl, .int .u32 p.d, .int .i64 p.dl, .int .u16 p.p.1, .int .u16 p.p.2, .int .u16 p.q.1, .int .u16 p.q.2, .int .u8 p.m.1, .int .u8 p.m.2, .int .i64 p.act] #[.int .i64 p.i, .int .u32 p.s, .int .i64 p.sl, .int .u32 p.d, .int .i64 p.dl, .int .u16 p.p.1, .int .u16 p.p.2, .int .u16 p.q.1, .int .u16 p.q.2, .int .u8 p.m.1, .int .u8 p.m.2, .int .i64 p.act] rfl rfl 60 _ hZZ (Nat.le_of_ble_eq_true rfl) rfl (by kernel_rfl) rfl ?_; intro w8 hw8 how8)
  exact bodyPost_ret (results_blk2 Try.results34 rfl hw8 Try.underlying60 rfl (by kernel_rfl)) rfl ⟨rfl, HB0.out.trans (how8.below (Nat.le_refl _))⟩
end Go.Proofs.Ytfpmljgmfapoiaa
