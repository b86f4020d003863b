/-
  PkAG: TqRl TuK NsPl, one behind the other (tools/pack.py).
-/
import Derived.Test.YtfpmljgmfapoiaaGreatPkAF
import Derived.Test.YtfpmljgmfapoiaaGreatPkAD
import Derived.Below
/-
  The document's List. Written by tools/mkNsRl.py.
-/
namespace Go.Proofs.YtfpmljgmfapoiaaGreat
open Go.RowKit
set_option linter.unusedVariables false
set_option linter.unusedSimpArgs false


theorem fnd_take {l : List Ru} {k : Nat} {x : Int} (h : ∀ j (hj : j < l.length), j < k → (l[j]).i ≠ x) : fnd (l.take k) x = -1 := by
  rw [fnd_none]
  intro R hR
  obtain ⟨j, hj, rfl⟩ := List.mem_iff_getElem.1 hR
  rw [List.length_take] at hj
  rw [List.getElem_take]
  exact h j (by omega) (by omega)
theorem fnd_hit {l : List Ru} {k j : Nat} {x : Int} (hk : k ≤ l.length) (hj : j < k) (h : (l[j]'(by omega)).i = x) : 0 ≤ fnd (l.take k) x := by
  rcases fnd_range (l.take k) x with e | e
  · rw [fnd_none] at e
    have hm : l[j]'(by omega) ∈ l.take k := by
      rw [List.mem_iff_getElem]
      exact ⟨j, by rw [List.length_take]; omega, by rw [List.getElem_take]⟩
    exact absurd h (e _ hm)
  · exact e.1
set_option maxRecDepth 20000 in
set_option maxHeartbeats 4000000 in
theorem rlistC (l : List Ru) (v : Value) (w : World) (hs : SrcU w v l) (hb : ∀ R ∈ l, BdR R) :
    Calls Tryz.prog 56 #[v] w fun e w' => e = .returned (.int .i64 (setE l 64)) ∧ Below w.heap.size w w' := by
  have HS : Hid (SrcU w v l) := hs
  have HBd : Hid (∀ R ∈ l, BdR R) := hb
  obtain ⟨ad, cap, rfl, hcp, _⟩ := hs
  obtain ⟨n, hn⟩ : ∃ n, n = l.length := ⟨_, rfl⟩
  rw [← hn] at HS ⊢
  have Hn : Hid (n = l.length) := hn
  obtain ⟨A, hA⟩ : ∃ A, A = setE l 64 := ⟨_, rfl⟩
  have HA : Hid (A = setK 64 (l.take 0) (l.drop 0)) := hA
  rw [← hA]
  clear hn hb hcp hA
  go_enter Tryz.func56, Tryz.ntmps56
  go_wp2_with (fail)
  go_loopw [3] (fun vi wr => ∃ k : Nat, k ≤ n ∧ k ≤ 64 ∧ vi = .int .i64 k ∧ Hid (A = setK 64 (l.take k) (l.drop k)) ∧ Hid (Below w.heap.size w wr)) (fun vi _ => n - (intOf vi).toNat)
  case atStart => exact ⟨0, Nat.zero_le _, Nat.zero_le _, rfl, HA.out, Below.refl _ _⟩
  case round =>
    obtain ⟨k, hk, hk64, rfl, HK, HB⟩ := hrel
    clear HA
    by_cases hlt : k < n
    · have hlt' : k < l.length := by rw [← Hn.out]; exact hlt
      have hlti : (k : Int) < (n : Int) := by omega
      obtain ⟨g, off, rfl, hrg⟩ := (rngU HS.out).2 wr HB.out k hlt'
      have hbd := HBd.out _ (List.getElem_mem hlt')
      have hbad := fun e => setK_bad (l := l) (M := 64) hlt' e
      have hful := fun e h => setK_full (l := l) (M := 64) hlt' e h
      have hnxt := fun e h => setK_next (l := l) (M := 64) hlt' e h
      obtain ⟨p, hp⟩ : ∃ p, p = l[k] := ⟨_, rfl⟩
      rw [← hp] at hrg hbd hbad hful hnxt
      have Hp : Hid (p = l[k]) := hp
      clear hp
      have x0 : wr.cell? ⟨g, off + k * 12, none⟩ = some (.int .i64 p.i) := hrg 0 _ rfl
      have x1 : wr.cell? ⟨g, off + k * 12 + 1, none⟩ = some (.int .u32 p.s) := hrg 1 _ rfl
      have x2 : wr.cell? ⟨g, off + k * 12 + 2, none⟩ = some (.int .i64 p.sl) := hrg 2 _ rfl
      have x3 : wr.cell? ⟨g, off + k * 12 + 3, none⟩ = some (.int .u32 p.d) := hrg 3 _ rfl
      have x4 : wr.cell? ⟨g, off + k * 12 + 4, none⟩ = some (.int .i64 p.dl) := hrg 4 _ rfl
      have x5 : wr.cell? ⟨g, off + k * 12 + 5, none⟩ = some (.int .u16 p.p.1) := hrg 5 _ rfl
      have x6 : wr.cell? ⟨g, off + k * 12 + 6, none⟩ = some (.int .u16 p.p.2) := hrg 6 _ rfl
      have x7 : wr.cell? ⟨g, off + k * 12 + 7, none⟩ = some (.int .u16 p.q.1) := hrg 7 _ rfl
      have x8 : wr.cell? ⟨g, off + k * 12 + 8, none⟩ = some (.int .u16 p.q.2) := hrg 8 _ rfl
      have x9 : wr.cell? ⟨g, off + k * 12 + 9, none⟩ = some (.int .u8 p.m.1) := hrg 9 _ rfl
      have x10 : wr.cell? ⟨g, off + k * 12 + 10, none⟩ = some (.int .u8 p.m.2) := hrg 10 _ rfl
      have x11 : wr.cell? ⟨g, off + k * 12 + 11, none⟩ = some (.int .i64 p.act) := hrg 11 _ rfl
      have hC := fun W => rcheckR p W hbd
      have Hbad : Hid _ := hbad
      have Hful : Hid _ := hful
      have Hnxt : Hid _ := hnxt
      clear hrg hbd hbad hful hnxt
      go_wp2_with (go_at_call 38; fail)
      clear x0 x1 x2 x3 x4 x5 x6 x7 x8 x9 x10 x11
      refine (hC _).mono ?_
      rintro e w3 ⟨rfl, hb3⟩
      have HB3 : Hid (Below w.heap.size w w3) := bel_of HB.out hb3 HB.out.size
      clear hb3 hC
      cases hok : okR p with
      | false =>
        have hne := errs_no hok
        have hj : joinE (l.take k) p = (errs p).1 := by unfold joinE; rw [if_neg hne]
        have HV : Hid (A = (errs p).1) := by
          show A = (errs p).1
          rw [HK.out, Hbad.out (by rw [hj]; exact hne), hj]
        have hne' : ((errs p).1 != 0) = true := by simpa using hne
        clear hj hok hne
        generalize (errs p).1 = E1 at *
        generalize (errs p).2 = E2 at *
        go_wp2_with (fail)
        go_ret
        exact ⟨ret_int HV.out.symm, HB3.out⟩
      | true =>
        rw [errs_ok hok]
        have he0 : (errs p).1 = 0 := by rw [errs_ok hok]
        have Hj : Hid (joinE (l.take k) p = if 0 ≤ fnd (l.take k) p.i then 111 else 0) := by show _ = _; unfold joinE; rw [if_pos he0]
        clear hok he0
        go_wp2_with (fail)
        generalize w3 = V3 at *
        go_loopw [6] (fun vj wr => ∃ j : Nat, j ≤ k ∧ vj = .int .i64 j ∧ Hid (∀ i (hi : i < l.length), i < j → (l[i]).i ≠ p.i) ∧ Hid (Below w.heap.size w wr)) (fun vj _ => k - (intOf vj).toNat)
        case atStart => exact ⟨0, Nat.zero_le _, rfl, fun i _ hi => by omega, HB3.out⟩
        case round =>
          obtain ⟨j, hj, rfl, HN, HBj⟩ := hrel
          clear HB3
          by_cases hltj : j < k
          · have hltj' : j < l.length := by omega
            have hltji : (j : Int) < (k : Int) := by omega
            have hjn : (j : Int) < (n : Int) := by omega
            obtain ⟨g', off', e', hrj⟩ := (rngU HS.out).2 wr HBj.out j hltj'
            injection e' with e'
            injection e' with e1 e2
            subst e1 e2
            obtain ⟨g', off', e', hrk⟩ := (rngU HS.out).2 wr HBj.out k hlt'
            injection e' with e'
            injection e' with e1 e2
            subst e1 e2
            rw [← Hp.out] at hrk
            have q0 : wr.cell? ⟨g, off + j * 12, none⟩ = some (.int .i64 (l[j]).i) := hrj 0 _ rfl
            have q1 : wr.cell? ⟨g, off + k * 12, none⟩ = some (.int .i64 p.i) := hrk 0 _ rfl
            clear hrj hrk
            by_cases hid : (l[j]).i = p.i
            · have HV : Hid (A = 111) := by
                show A = 111
                have h1 := Hj.out
                rw [if_pos (fnd_hit (Nat.le_of_lt hlt') hltj hid)] at h1
                rw [HK.out, Hbad.out (by rw [h1]; decide), h1]
              have hb1 : ((l[j]).i == p.i) = true := by simpa using hid
              generalize (l[j]).i = xj at *
              clear hid
              go_wp2_with (fail)
              go_quiet (fail)
              go_wp2_with (fail)
              go_ret
              exact ⟨ret_int HV.out.symm, bel_drewN HBj.out _⟩
            · have HN2 : Hid (∀ i (hi : i < l.length), i < j + 1 → (l[i]).i ≠ p.i) := fun i hi hij => by
                by_cases e : i = j
                · subst e; exact hid
                · exact HN.out i hi (by omega)
              have hb1 : ((l[j]).i == p.i) = false := by simpa using hid
              generalize (l[j]).i = xj at *
              go_wp2_with (fail)
              go_quiet (fail)
              go_wp2_with (fail)
              go_roundw
              case rel => exact ⟨j + 1, by omega, by go_num, HN2.out, bel_drewN HBj.out _⟩
              case measure => simp [intOf]; omega
          · obtain rfl : j = k := by omega
            have hnj : ¬ (j : Int) < (j : Int) := by omega
            have Hj0 : Hid (joinE (l.take j) p = 0) := by
              show joinE (l.take j) p = 0
              rw [Hj.out, fnd_take HN.out]; rfl
            by_cases h64 : (j : Int) = 64
            · have HV : Hid (A = 113) := by
                show A = 113
                rw [HK.out, Hful.out Hj0.out (by omega)]
              have h64b : ((j : Int) == 64) = true := by simpa using h64
              clear h64
              go_wp2_with (fail)
              go_ret
              exact ⟨ret_int HV.out.symm, HBj.out⟩
            · have HK3 : Hid (A = setK 64 (l.take (j + 1)) (l.drop (j + 1))) := by
                show A = setK 64 (l.take (j + 1)) (l.drop (j + 1))
                rw [HK.out, Hnxt.out Hj0.out (by omega)]
              have h64b : ((j : Int) == 64) = false := by simpa using h64
              go_wp2_with (fail)
              go_roundw
              case rel => exact ⟨j + 1, by omega, by omega, by go_num, HK3.out, HBj.out⟩
              case measure => simp [intOf]; omega
    · obtain rfl : k = n := by omega
      have hni : ¬ (k : Int) < (k : Int) := by omega
      have HV : Hid (A = 0) := by
        show A = 0
        rw [HK.out, setK_end (by rw [← Hn.out]; exact Nat.le_refl _)]
      go_wp2
      go_ret
      exact ⟨ret_int HV.out.symm, HB.out⟩
end Go.Proofs.YtfpmljgmfapoiaaGreat
/-
  nest's check. Out of NqK.
-/
namespace Go.Proofs.YtfpmljgmfapoiaaGreat
open Go.RowKit
set_option linter.unusedVariables false
set_option linter.unusedSimpArgs false


set_option maxRecDepth 20000 in
set_option maxHeartbeats 2000000 in
theorem nIdC (x : Int) (R : Ru) (B : Nat) (w : World) (hB : w.cell? ⟨B, 0, none⟩ = some (.int .i64 x)) :
    Calls Tryz.prog 79 #[.agg #[.int .i64 R.i, .int .u32 R.s, .int .i64 R.sl, .int .u32 R.d, .int .i64 R.dl, .int .u16 R.p.1, .int .u16 R.p.2, .int .u16 R.q.1, .int .u16 R.q.2, .int .u8 R.m.1, .int .u8 R.m.2, .int .i64 R.act], .pointer (some ⟨B, 0, none⟩)] w fun e w' => e = .returned (.bool (decide (R.i = x))) ∧ Below w.heap.size w w' := by
  have hB2 := fun o => cell_on1 ((Below.refl _ w).alloc (Nat.le_refl _) o) hB
  obtain ⟨b, hb⟩ : ∃ b, b = decide (R.i = x) := ⟨_, rfl⟩
  have hb' : (R.i == x) = b := by rw [hb]; rfl
  rw [← hb]
  have hlt := World.block_lt_of_cell? w _ hB
  have hne : ¬ B = w.heap.size := by simp at hlt; omega
  clear hb
  go_enter Tryz.func79, Tryz.ntmps79
  go_wp2
  go_ret
  exact ⟨by simp [← hb'], (Below.refl _ _).alloc (Nat.le_refl _) _⟩
set_option maxRecDepth 20000 in
set_option maxHeartbeats 8000000 in
theorem nIndexC (v : Value) (l : List Ru) (x : Int) (B : Nat) (w : World) (hs : SrcU w v l) (hB : w.cell? ⟨B, 0, none⟩ = some (.int .i64 x)) (hl : l.length ≤ 200000) :
    Calls Tryz.prog 69 #[v, .func (.func 79) #[] #[.pointer (some ⟨B, 0, none⟩)]] w fun e w' => e = .returned (.int .i64 (fnd l x)) ∧ Below w.heap.size w w' := by
  obtain ⟨ad, cap, rfl, hcap, hat⟩ := hs
  obtain ⟨A, hA⟩ : ∃ A, A = fnd l x := ⟨_, rfl⟩
  rw [← hA]
  have HA : Hid (A = fndK x (l.drop 0) 0) := hA
  clear hA
  obtain ⟨n, hn⟩ : ∃ n, n = l.length := ⟨_, rfl⟩
  have Hn : Hid (n = l.length) := hn
  have HAt : Hid (∀ (W : World), Below w.heap.size w W → ∀ k (hk : k < l.length), ∃ g off, ad = some ⟨g, off, none⟩ ∧ g < W.heap.size ∧ ∀ j, j < 12 → W.cell? ⟨g, off + (k * 12 + j), none⟩ = (encU (l[k]'hk))[j]?) := fun W hb k hk => by
    obtain ⟨g, off, e, h3⟩ := hat (by omega)
    have h0 := h3 k hk 0 (by decide)
    have hg : g < w.heap.size := World.block_lt_of_cell? w _ (h0.trans rfl)
    exact ⟨g, off, e, by have := hb.size; omega, fun j hj => by
      have := h3 k hk j hj
      obtain ⟨u, hu⟩ := encU_some (l[k]'hk) hj
      rw [hb.cell (p := ⟨g, off + (k * 12 + j), none⟩) hg]; exact this⟩
  have HI : Hid (∀ (W : World) (R : Ru), Below w.heap.size w W → Calls Tryz.prog 79 #[.agg #[.int .i64 R.i, .int .u32 R.s, .int .i64 R.sl, .int .u32 R.d, .int .i64 R.dl, .int .u16 R.p.1, .int .u16 R.p.2, .int .u16 R.q.1, .int .u16 R.q.2, .int .u8 R.m.1, .int .u8 R.m.2, .int .i64 R.act], .pointer (some ⟨B, 0, none⟩)] W fun e w' => e = .returned (.bool (decide (R.i = x))) ∧ Below W.heap.size W w') := fun W R hb => nIdC x R B W (cell_on1 hb hB)
  rw [← hn] at hl hcap ⊢
  have hn0 : (n : Int) ≤ 200000 := by omega
  clear hn hat hB
  go_enter Tryz.func69, Tryz.ntmps69
  go_wp2_with (fail)
  go_loopw [8] (fun i wr => ∃ k : Nat, k ≤ n ∧ i = .int .i64 k ∧ Hid (Below w.heap.size w wr) ∧ Hid (A = fndK x (l.drop k) k)) (fun i _ => n - (intOf i).toNat)
  case atStart => exact ⟨0, Nat.zero_le _, rfl, Below.refl _ _, HA.out⟩
  case round =>
    obtain ⟨k, hk, rfl, HB, HK⟩ := hrel
    by_cases hlt : k < n
    · have hkl : k < l.length := by rw [← Hn.out]; exact hlt
      obtain ⟨g, off, rfl, hg, hc⟩ := HAt.out wr HB.out k hkl
      obtain ⟨p, hp⟩ : ∃ p, p = l[k]'hkl := ⟨_, rfl⟩
      rw [← hp] at hc
      have x0 : wr.cell? ⟨g, off + k * 12, none⟩ = some (.int .i64 p.i) := hc 0 (by decide)
      have x1 : wr.cell? ⟨g, off + k * 12 + 1, none⟩ = some (.int .u32 p.s) := hc 1 (by decide)
      have x2 : wr.cell? ⟨g, off + k * 12 + 2, none⟩ = some (.int .i64 p.sl) := hc 2 (by decide)
      have x3 : wr.cell? ⟨g, off + k * 12 + 3, none⟩ = some (.int .u32 p.d) := hc 3 (by decide)
      have x4 : wr.cell? ⟨g, off + k * 12 + 4, none⟩ = some (.int .i64 p.dl) := hc 4 (by decide)
      have x5 : wr.cell? ⟨g, off + k * 12 + 5, none⟩ = some (.int .u16 p.p.1) := hc 5 (by decide)
      have x6 : wr.cell? ⟨g, off + k * 12 + 6, none⟩ = some (.int .u16 p.p.2) := hc 6 (by decide)
      have x7 : wr.cell? ⟨g, off + k * 12 + 7, none⟩ = some (.int .u16 p.q.1) := hc 7 (by decide)
      have x8 : wr.cell? ⟨g, off + k * 12 + 8, none⟩ = some (.int .u16 p.q.2) := hc 8 (by decide)
      have x9 : wr.cell? ⟨g, off + k * 12 + 9, none⟩ = some (.int .u8 p.m.1) := hc 9 (by decide)
      have x10 : wr.cell? ⟨g, off + k * 12 + 10, none⟩ = some (.int .u8 p.m.2) := hc 10 (by decide)
      have x11 : wr.cell? ⟨g, off + k * 12 + 11, none⟩ = some (.int .i64 p.act) := hc 11 (by decide)
      have hlt' : (k : Int) < (n : Int) := by omega
      have hI := HI.out wr p HB.out
      clear hc HI
      by_cases hx : p.i = x
      · have HV : Hid (A = (k : Int)) := HK.out.trans (fndK_hit hkl (by rw [← hp]; exact hx))
        rw [decide_eq_true hx] at hI
        clear hp hx HK HA HAt
        go_wp2_with (fail)
        refine hI.mono ?_
        rintro e w1 ⟨rfl, hb1⟩
        have HB1 : Hid (Below w.heap.size w w1) := HB.out.trans (hb1.mono HB.out.size)
        clear hb1 x0 x1 x2 x3 x4 x5 x6 x7 x8 x9 x10 x11
        go_wp2_with (fail)
        go_ret
        exact ⟨ret_int HV.out.symm, HB1.out⟩
      · have HK2 : Hid (A = fndK x (l.drop (k + 1)) (k + 1)) := HK.out.trans (fndK_no hkl (by rw [← hp]; exact hx))
        rw [decide_eq_false hx] at hI
        clear hp hx HK HA HAt hkl
        go_wp2_with (fail)
        refine hI.mono ?_
        rintro e w1 ⟨rfl, hb1⟩
        have HB1 : Hid (Below w.heap.size w w1) := HB.out.trans (hb1.mono HB.out.size)
        clear hb1 x0 x1 x2 x3 x4 x5 x6 x7 x8 x9 x10 x11
        go_wp2_with (fail)
        go_roundw
        case rel => exact ⟨k + 1, by omega, by go_num, HB1.out, HK2.out⟩
        case measure => simp [intOf]; omega
    · obtain rfl : k = n := by omega
      have HV : Hid (A = -1) := HK.out.trans (fndK_end (by rw [← Hn.out]; exact Nat.le_refl _))
      clear HK HA HAt HI
      go_wp2_with (fail)
      go_ret
      exact ⟨ret_int HV.out.symm, HB.out⟩

theorem containsC (v : Value) (l : List Ru) (x : Int) (B : Nat) (w : World) (hs : SrcU w v l) (hB : w.cell? ⟨B, 0, none⟩ = some (.int .i64 x)) (hl : l.length ≤ 200000) :
    Calls Tryz.prog 78 #[v, .func (.func 79) #[] #[.pointer (some ⟨B, 0, none⟩)]] w fun e w' => e = .returned (.bool (decide (0 ≤ fnd l x))) ∧ Below w.heap.size w w' := by
  have hI := nIndexC v l x B w hs hB hl
  generalize fnd l x = F at *
  clear hs
  go_enter Tryz.func78, Tryz.ntmps78
  go_wp2_with (go_at_call 69; fail)
  refine hI.mono ?_
  rintro e w1 ⟨rfl, hb1⟩
  have HB1 : Hid (Below w.heap.size w w1) := hb1
  clear hb1 hI
  go_wp2
  go_ret
  exact ⟨rfl, HB1.out⟩
theorem nCutH (w : World) (ad : Option Addr) (n cap h : Nat) (h2 : h ≤ cap) : (Instr.sliceAt 42 (.slice ad n cap) none (some (.int .i64 h)) none).run Tryz.prog w = .ok (.slice ad h cap) w := by
  rw [run_cut_h w ad n cap h h2, cutU_zero]
set_option maxRecDepth 20000 in
set_option maxHeartbeats 4000000 in
theorem checkLC (l : List Ru) (v : Value) (w : World) (hs : SrcU w v l) (hl : l.length ≤ 16777216) (hb : ∀ R ∈ l, BdR R) :
    Calls Tryz.prog 62 #[v] w fun e w' => e = .returned (.int .i64 (setE l 64)) ∧ Below w.heap.size w w' := by
  have HS : Hid (SrcU w v l) := hs
  have HBd : Hid (∀ R ∈ l, BdR R) := hb
  obtain ⟨ad, cap, rfl, hcp, _⟩ := hs
  have Hcap : Hid (l.length ≤ cap) := hcp.1
  obtain ⟨n, hn⟩ : ∃ n, n = l.length := ⟨_, rfl⟩
  rw [← hn] at HS hl Hcap ⊢
  have Hn : Hid (n = l.length) := hn
  obtain ⟨A, hA⟩ : ∃ A, A = setE l 64 := ⟨_, rfl⟩
  have HA : Hid (A = setK 64 (l.take 0) (l.drop 0)) := hA
  rw [← hA]
  clear hn hb hcp hA
  go_enter Tryz.func62, Tryz.ntmps62
  go_wp2_with (fail)
  go_loopw [9] (fun vi wr => ∃ k : Nat, k ≤ n ∧ k ≤ 64 ∧ vi = .int .i64 k ∧ Hid (A = setK 64 (l.take k) (l.drop k)) ∧ Hid (Below w.heap.size w wr)) (fun vi _ => n - (intOf vi).toNat)
  case atStart => exact ⟨0, Nat.zero_le _, Nat.zero_le _, rfl, HA.out, Below.refl _ _⟩
  case round =>
    obtain ⟨k, hk, hk64, rfl, HK, HB⟩ := hrel
    clear HA
    by_cases hlt : k < n
    · have hlt' : k < l.length := by rw [← Hn.out]; exact hlt
      have hlti : (k : Int) < (n : Int) := by omega
      obtain ⟨g, off, rfl, hrg⟩ := (rngU HS.out).2 wr HB.out k hlt'
      have hbd := HBd.out _ (List.getElem_mem hlt')
      have hbad := fun e => setK_bad (l := l) (M := 64) hlt' e
      have hful := fun e h => setK_full (l := l) (M := 64) hlt' e h
      have hnxt := fun e h => setK_next (l := l) (M := 64) hlt' e h
      obtain ⟨p, hp⟩ : ∃ p, p = l[k] := ⟨_, rfl⟩
      rw [← hp] at hrg hbd hbad hful hnxt
      have HK2 : Hid (∀ q, q = l[k] → True) := fun _ _ => trivial
      clear hp
      have x0 : wr.cell? ⟨g, off + k * 12, none⟩ = some (.int .i64 p.i) := hrg 0 _ rfl
      have x1 : wr.cell? ⟨g, off + k * 12 + 1, none⟩ = some (.int .u32 p.s) := hrg 1 _ rfl
      have x2 : wr.cell? ⟨g, off + k * 12 + 2, none⟩ = some (.int .i64 p.sl) := hrg 2 _ rfl
      have x3 : wr.cell? ⟨g, off + k * 12 + 3, none⟩ = some (.int .u32 p.d) := hrg 3 _ rfl
      have x4 : wr.cell? ⟨g, off + k * 12 + 4, none⟩ = some (.int .i64 p.dl) := hrg 4 _ rfl
      have x5 : wr.cell? ⟨g, off + k * 12 + 5, none⟩ = some (.int .u16 p.p.1) := hrg 5 _ rfl
      have x6 : wr.cell? ⟨g, off + k * 12 + 6, none⟩ = some (.int .u16 p.p.2) := hrg 6 _ rfl
      have x7 : wr.cell? ⟨g, off + k * 12 + 7, none⟩ = some (.int .u16 p.q.1) := hrg 7 _ rfl
      have x8 : wr.cell? ⟨g, off + k * 12 + 8, none⟩ = some (.int .u16 p.q.2) := hrg 8 _ rfl
      have x9 : wr.cell? ⟨g, off + k * 12 + 9, none⟩ = some (.int .u8 p.m.1) := hrg 9 _ rfl
      have x10 : wr.cell? ⟨g, off + k * 12 + 10, none⟩ = some (.int .u8 p.m.2) := hrg 10 _ rfl
      have x11 : wr.cell? ⟨g, off + k * 12 + 11, none⟩ = some (.int .i64 p.act) := hrg 11 _ rfl
      have hC := fun W => checkRC p W hbd
      have HX : Hid ((wr.alloc (.cells #[.int .i64 p.i, .int .u32 p.s, .int .i64 p.sl, .int .u32 p.d, .int .i64 p.dl, .int .u16 p.p.1, .int .u16 p.p.2, .int .u16 p.q.1, .int .u16 p.q.2, .int .u8 p.m.1, .int .u8 p.m.2, .int .i64 p.act] 52)).heap[wr.heap.size]? = some (.cells #[.int .i64 p.i, .int .u32 p.s, .int .i64 p.sl, .int .u32 p.d, .int .i64 p.dl, .int .u16 p.p.1, .int .u16 p.p.2, .int .u16 p.q.1, .int .u16 p.q.2, .int .u8 p.m.1, .int .u8 p.m.2, .int .i64 p.act] 52 (0, 0))) := blk_new wr _
      have HB2 : Hid (Below w.heap.size w (wr.alloc (.cells #[.int .i64 p.i, .int .u32 p.s, .int .i64 p.sl, .int .u32 p.d, .int .i64 p.dl, .int .u16 p.p.1, .int .u16 p.p.2, .int .u16 p.q.1, .int .u16 p.q.2, .int .u8 p.m.1, .int .u8 p.m.2, .int .i64 p.act] 52))) := HB.out.alloc HB.out.size _
      have Hbad : Hid _ := hbad
      have Hful : Hid _ := hful
      have Hnxt : Hid _ := hnxt
      clear hrg hbd hbad hful hnxt
      go_wp2_with (go_at_call 64; fail)
      clear x0 x1 x2 x3 x4 x5 x6 x7 x8 x9 x10 x11
      refine (hC _).mono ?_
      rintro e w3 ⟨rfl, hb3⟩
      have HX3 : Hid (w3.heap[wr.heap.size]? = some (.cells #[.int .i64 p.i, .int .u32 p.s, .int .i64 p.sl, .int .u32 p.d, .int .i64 p.dl, .int .u16 p.p.1, .int .u16 p.p.2, .int .u16 p.q.1, .int .u16 p.q.2, .int .u8 p.m.1, .int .u8 p.m.2, .int .i64 p.act] 52 (0, 0))) := blk_on HX.out hb3
      have HB3 : Hid (Below w.heap.size w w3) := bel_of HB2.out hb3 HB2.out.size
      clear hb3 hC HX HB2
      cases hok : okR p with
      | false =>
        have hne := errs_no hok
        have hj : joinE (l.take k) p = (errs p).1 := by unfold joinE; rw [if_neg hne]
        have HV : Hid (A = (errs p).1) := by
          show A = (errs p).1
          rw [HK.out, Hbad.out (by rw [hj]; exact hne), hj]
        have hne' : ((errs p).1 != 0) = true := by simpa using hne
        clear hj hok hne
        generalize (errs p).1 = E1 at *
        generalize (errs p).2 = E2 at *
        go_wp2_with (fail)
        go_ret
        exact ⟨ret_int HV.out.symm, HB3.out⟩
      | true =>
        rw [errs_ok hok]
        have he0 : (errs p).1 = 0 := by rw [errs_ok hok]
        have hj : joinE (l.take k) p = if 0 ≤ fnd (l.take k) p.i then 111 else 0 := by unfold joinE; rw [if_pos he0]
        have hT := containsC (.slice (some ⟨g, off, none⟩) k cap) (l.take k) p.i wr.heap.size w3 (by
          have := (HS.out.keep HB3.out).cut 0 k (Nat.zero_le _) (by rw [← Hn.out]; exact hk)
          rw [cutU_zero, List.drop_zero] at this
          exact this) (blk_cell HX3.out rfl) (by rw [List.length_take]; omega)
        have hcut := fun W => nCutH W (some ⟨g, off, none⟩) n cap k (by have := Hcap.out; omega)
        clear hok he0
        by_cases hf : 0 ≤ fnd (l.take k) p.i
        · have HV : Hid (A = 111) := by
            show A = 111
            rw [if_pos hf] at hj
            rw [HK.out, Hbad.out (by rw [hj]; decide), hj]
          rw [decide_eq_true hf] at hT
          clear hj hf
          go_wp2_with (go_at_call 78; refine hT.mono ?_; rintro e w4 ⟨rfl, hb4⟩)
          have HB4 : Hid (Below w.heap.size w w4) := bel_of HB3.out (by assumption) HB3.out.size
          go_ret
          exact ⟨ret_int HV.out.symm, HB4.out⟩
        · rw [if_neg hf] at hj
          rw [decide_eq_false hf] at hT
          have Hj : Hid (joinE (l.take k) p = 0) := hj
          clear hj hf
          by_cases h64 : k = 64
          · have HV : Hid (A = 113) := by
              show A = 113
              rw [HK.out, Hful.out Hj.out (by omega)]
            have h64i : (64 : Int) ≤ (k : Int) := by omega
            clear h64
            go_wp2_with (go_at_call 78; refine hT.mono ?_; rintro e w4 ⟨rfl, hb4⟩)
            have HB4 : Hid (Below w.heap.size w w4) := bel_of HB3.out (by assumption) HB3.out.size
            go_ret
            exact ⟨ret_int HV.out.symm, HB4.out⟩
          · have HK3 : Hid (A = setK 64 (l.take (k + 1)) (l.drop (k + 1))) := by
              show A = setK 64 (l.take (k + 1)) (l.drop (k + 1))
              rw [HK.out, Hnxt.out Hj.out (by omega)]
            have h64i : ¬ (64 : Int) ≤ (k : Int) := by omega
            go_wp2_with (go_at_call 78; refine hT.mono ?_; rintro e w4 ⟨rfl, hb4⟩)
            have HB4 : Hid (Below w.heap.size w w4) := bel_of HB3.out (by assumption) HB3.out.size
            go_roundw
            case rel => exact ⟨k + 1, by omega, by omega, by go_num, HK3.out, HB4.out⟩
            case measure => simp [intOf]; omega
    · obtain rfl : k = n := by omega
      have hni : ¬ (k : Int) < (k : Int) := by omega
      have HV : Hid (A = 0) := by
        show A = 0
        rw [HK.out, setK_end (by rw [← Hn.out]; exact Nat.le_refl _)]
      go_wp2
      go_ret
      exact ⟨ret_int HV.out.symm, HB.out⟩
end Go.Proofs.YtfpmljgmfapoiaaGreat
/-
  Levels of spans, as plain mathematics: the order in which spans are gone through, the level of each, a tree of least numbers. No program is named here.
-/
namespace Go.Proofs.YtfpmljgmfapoiaaGreat
set_option linter.unusedVariables false
set_option linter.unusedSimpArgs false

/-- Have two spans a port in common? -/
def mt (a b : Nat × Nat) : Bool := decide (a.1 ≤ b.2) && decide (b.1 ≤ a.2)
/-! A tree of least numbers in an array: below the place n stand 2n and 2n+1. -/
/-! The last port taken of each level, and the levels. -/
end Go.Proofs.YtfpmljgmfapoiaaGreat
