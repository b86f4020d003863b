/-
  GgGJ: NqRl NqSa NqSb NqSc GqSe, one behind the other (tools/merge.py).
-/
import Derived.Test.YtgidohnikggjfaaGreatGgGA
import Derived.Test.YtgidohnikggjfaaGreatTbRe
import Derived.Test.YtgidohnikggjfaaGreatGgGI
/-
  The document's List. Written by tools/mkNsRl.py.
-/
namespace Go.Proofs.YtgidohnikggjfaaGreat
open Go.RowKit
set_option linter.unusedVariables false
set_option linter.unusedSimpArgs false


theorem fnd_take {l : List Ru} {k : Nat} {x : Int} (h : ∀ j (hj : j < l.length), j < k → (l[j]).i ≠ x) : fnd (l.take k) x = -1 := by
  rw [fnd_none]
  intro R hR
  obtain ⟨j, hj, rfl⟩ := List.mem_iff_getElem.1 hR
  rw [List.length_take] at hj
  rw [List.getElem_take]
  exact h j (by omega) (by omega)
theorem fnd_hit {l : List Ru} {k j : Nat} {x : Int} (hk : k ≤ l.length) (hj : j < k) (h : (l[j]'(by omega)).i = x) : 0 ≤ fnd (l.take k) x := by
  rcases fnd_range (l.take k) x with e | e
  · rw [fnd_none] at e
    have hm : l[j]'(by omega) ∈ l.take k := by
      rw [List.mem_iff_getElem]
      exact ⟨j, by rw [List.length_take]; omega, by rw [List.getElem_take]⟩
    exact absurd h (e _ hm)
  · exact e.1
set_option maxRecDepth 20000 in
set_option maxHeartbeats 4000000 in
theorem rlistC (l : List Ru) (v : Value) (w : World) (hs : SrcU w v l) (hb : ∀ R ∈ l, BdR R) :
    Calls Tryz.prog 62 #[v] w fun e w' => e = .returned (.int .i64 (setE l 64)) ∧ Below w.heap.size w w' := by
  have HS : Hid (SrcU w v l) := hs
  have HBd : Hid (∀ R ∈ l, BdR R) := hb
  obtain ⟨ad, cap, rfl, hcp, _⟩ := hs
  obtain ⟨n, hn⟩ : ∃ n, n = l.length := ⟨_, rfl⟩
  rw [← hn] at HS ⊢
  have Hn : Hid (n = l.length) := hn
  obtain ⟨A, hA⟩ : ∃ A, A = setE l 64 := ⟨_, rfl⟩
  have HA : Hid (A = setK 64 (l.take 0) (l.drop 0)) := hA
  rw [← hA]
  clear hn hb hcp hA
  go_enter Tryz.func62, Tryz.ntmps62
  go_wp2_with (fail)
  go_loopw [3] (fun vi wr => ∃ k : Nat, k ≤ n ∧ k ≤ 64 ∧ vi = .int .i64 (k : Int) ∧ Hid (A = setK 64 (l.take k) (l.drop k)) ∧ Hid (Below w.heap.size w wr)) (fun vi _ => n - (intOf vi).toNat)
  case atStart => exact ⟨0, Nat.zero_le _, Nat.zero_le _, rfl, HA.out, Below.refl _ _⟩
  case round =>
    obtain ⟨k, hk, hk64, rfl, HK, HB⟩ := hrel
    clear HA
    by_cases hlt : k < n
    · have hlt' : k < l.length := by rw [← Hn.out]; exact hlt
      have hlti : (k : Int) < (n : Int) := by omega
      obtain ⟨g, off, rfl, hrg⟩ := (rngU HS.out).2 wr HB.out k hlt'
      have hbd := HBd.out _ (List.getElem_mem hlt')
      have hbad := fun e => setK_bad (l := l) (M := 64) hlt' e
      have hful := fun e h => setK_full (l := l) (M := 64) hlt' e h
      have hnxt := fun e h => setK_next (l := l) (M := 64) hlt' e h
      obtain ⟨p, hp⟩ : ∃ p, p = l[k] := ⟨_, rfl⟩
      rw [← hp] at hrg hbd hbad hful hnxt
      have Hp : Hid (p = l[k]) := hp
      clear hp
      have x0 : wr.cell? ⟨g, off + k * 12, none⟩ = some (.int .i64 p.i) := hrg 0 _ rfl
      have x1 : wr.cell? ⟨g, off + k * 12 + 1, none⟩ = some (.int .u32 (p.s : Int)) := hrg 1 _ rfl
      have x2 : wr.cell? ⟨g, off + k * 12 + 2, none⟩ = some (.int .i64 p.sl) := hrg 2 _ rfl
      have x3 : wr.cell? ⟨g, off + k * 12 + 3, none⟩ = some (.int .u32 (p.d : Int)) := hrg 3 _ rfl
      have x4 : wr.cell? ⟨g, off + k * 12 + 4, none⟩ = some (.int .i64 p.dl) := hrg 4 _ rfl
      have x5 : wr.cell? ⟨g, off + k * 12 + 5, none⟩ = some (.int .u16 (p.p.1 : Int)) := hrg 5 _ rfl
      have x6 : wr.cell? ⟨g, off + k * 12 + 6, none⟩ = some (.int .u16 (p.p.2 : Int)) := hrg 6 _ rfl
      have x7 : wr.cell? ⟨g, off + k * 12 + 7, none⟩ = some (.int .u16 (p.q.1 : Int)) := hrg 7 _ rfl
      have x8 : wr.cell? ⟨g, off + k * 12 + 8, none⟩ = some (.int .u16 (p.q.2 : Int)) := hrg 8 _ rfl
      have x9 : wr.cell? ⟨g, off + k * 12 + 9, none⟩ = some (.int .u8 (p.m.1 : Int)) := hrg 9 _ rfl
      have x10 : wr.cell? ⟨g, off + k * 12 + 10, none⟩ = some (.int .u8 (p.m.2 : Int)) := hrg 10 _ rfl
      have x11 : wr.cell? ⟨g, off + k * 12 + 11, none⟩ = some (.int .i64 p.act) := hrg 11 _ rfl
      have hC := fun W => rcheckR p W hbd
      have Hbad : Hid _ := hbad
      have Hful : Hid _ := hful
      have Hnxt : Hid _ := hnxt
      clear hrg hbd hbad hful hnxt
      go_wp2_with (go_at_call 43; fail)
      clear x0 x1 x2 x3 x4 x5 x6 x7 x8 x9 x10 x11
      refine (hC _).mono ?_
      rintro e w3 ⟨rfl, hb3⟩
      have HB3 : Hid (Below w.heap.size w w3) := bel_of HB.out hb3 HB.out.size
      clear hb3 hC
      cases hok : okR p with
      | false =>
        have hne := errs_no hok
        have hj : joinE (l.take k) p = (errs p).1 := by unfold joinE; rw [if_neg hne]
        have HV : Hid (A = (errs p).1) := by
          show A = (errs p).1
          rw [HK.out, Hbad.out (by rw [hj]; exact hne), hj]
        have hne' : ((errs p).1 != 0) = true := by simpa using hne
        clear hj hok hne
        generalize (errs p).1 = E1 at *
        generalize (errs p).2 = E2 at *
        go_wp2_with (fail)
        go_ret
        exact ⟨ret_int HV.out.symm, HB3.out⟩
      | true =>
        rw [errs_ok hok]
        have he0 : (errs p).1 = 0 := by rw [errs_ok hok]
        have Hj : Hid (joinE (l.take k) p = if 0 ≤ fnd (l.take k) p.i then 111 else 0) := by show _ = _; unfold joinE; rw [if_pos he0]
        clear hok he0
        go_wp2_with (fail)
        generalize w3 = V3 at *
        go_loopw [6] (fun vj wr => ∃ j : Nat, j ≤ k ∧ vj = .int .i64 (j : Int) ∧ Hid (∀ i (hi : i < l.length), i < j → (l[i]).i ≠ p.i) ∧ Hid (Below w.heap.size w wr)) (fun vj _ => k - (intOf vj).toNat)
        case atStart => exact ⟨0, Nat.zero_le _, rfl, fun i _ hi => by omega, HB3.out⟩
        case round =>
          obtain ⟨j, hj, rfl, HN, HBj⟩ := hrel
          clear HB3
          by_cases hltj : j < k
          · have hltj' : j < l.length := by omega
            have hltji : (j : Int) < (k : Int) := by omega
            have hjn : (j : Int) < (n : Int) := by omega
            obtain ⟨g', off', e', hrj⟩ := (rngU HS.out).2 wr HBj.out j hltj'
            injection e' with e'
            injection e' with e1 e2
            subst e1 e2
            obtain ⟨g', off', e', hrk⟩ := (rngU HS.out).2 wr HBj.out k hlt'
            injection e' with e'
            injection e' with e1 e2
            subst e1 e2
            rw [← Hp.out] at hrk
            have q0 : wr.cell? ⟨g, off + j * 12, none⟩ = some (.int .i64 (l[j]).i) := hrj 0 _ rfl
            have q1 : wr.cell? ⟨g, off + k * 12, none⟩ = some (.int .i64 p.i) := hrk 0 _ rfl
            clear hrj hrk
            by_cases hid : (l[j]).i = p.i
            · have HV : Hid (A = 111) := by
                show A = 111
                have h1 := Hj.out
                rw [if_pos (fnd_hit (Nat.le_of_lt hlt') hltj hid)] at h1
                rw [HK.out, Hbad.out (by rw [h1]; decide), h1]
              have hb1 : ((l[j]).i == p.i) = true := by simpa using hid
              generalize (l[j]).i = xj at *
              clear hid
              go_wp2_with (fail)
              go_quiet (fail)
              go_wp2_with (fail)
              go_ret
              exact ⟨ret_int HV.out.symm, bel_drewN HBj.out _⟩
            · have HN2 : Hid (∀ i (hi : i < l.length), i < j + 1 → (l[i]).i ≠ p.i) := fun i hi hij => by
                by_cases e : i = j
                · subst e; exact hid
                · exact HN.out i hi (by omega)
              have hb1 : ((l[j]).i == p.i) = false := by simpa using hid
              generalize (l[j]).i = xj at *
              go_wp2_with (fail)
              go_quiet (fail)
              go_wp2_with (fail)
              go_roundw
              case rel => exact ⟨j + 1, by omega, by go_num, HN2.out, bel_drewN HBj.out _⟩
              case measure => simp [intOf]; omega
          · obtain rfl : j = k := by omega
            have hnj : ¬ (j : Int) < (j : Int) := by omega
            have Hj0 : Hid (joinE (l.take j) p = 0) := by
              show joinE (l.take j) p = 0
              rw [Hj.out, fnd_take HN.out]; rfl
            by_cases h64 : (j : Int) = 64
            · have HV : Hid (A = 113) := by
                show A = 113
                rw [HK.out, Hful.out Hj0.out (by omega)]
              have h64b : ((j : Int) == 64) = true := by simpa using h64
              clear h64
              go_wp2_with (fail)
              go_ret
              exact ⟨ret_int HV.out.symm, HBj.out⟩
            · have HK3 : Hid (A = setK 64 (l.take (j + 1)) (l.drop (j + 1))) := by
                show A = setK 64 (l.take (j + 1)) (l.drop (j + 1))
                rw [HK.out, Hnxt.out Hj0.out (by omega)]
              have h64b : ((j : Int) == 64) = false := by simpa using h64
              go_wp2_with (fail)
              go_roundw
              case rel => exact ⟨j + 1, by omega, by omega, by go_num, HK3.out, HBj.out⟩
              case measure => simp [intOf]; omega
    · obtain rfl : k = n := by omega
      have hni : ¬ (k : Int) < (k : Int) := by omega
      have HV : Hid (A = 0) := by
        show A = 0
        rw [HK.out, setK_end (by rw [← Hn.out]; exact Nat.le_refl _)]
      go_wp2
      go_ret
      exact ⟨ret_int HV.out.symm, HB.out⟩
end Go.Proofs.YtgidohnikggjfaaGreat
/-
  The document's first.
-/
namespace Go.Proofs.YtgidohnikggjfaaGreat
open Go.RowKit
set_option linter.unusedVariables false
set_option linter.unusedSimpArgs false

theorem ok_lens {R : Ru} (h : okR R = true) : R.sl = (R.sl.toNat : Int) ∧ R.dl = (R.dl.toNat : Int) := by
  obtain ⟨_, h1, h2, _⟩ := (okR_iff R).1 h
  obtain ⟨m, e, _, _⟩ := Pf.chk_ok h1
  obtain ⟨m', e', _, _⟩ := Pf.chk_ok h2
  exact ⟨by omega, by omega⟩
/-- What a rule's prefixes read. -/
theorem rngP {w : World} {ad : Option Addr} {n cap : Nat} {l : List Ru} (h : SrcU w (.slice ad n cap) l) (ho : ∀ R ∈ l, okR R = true) : ∀ W, Below w.heap.size w W → ∀ k (hk : k < l.length), ∃ g off, ad = some ⟨g, off, none⟩ ∧
    W.cell? ⟨g, off + k * 12 + 1, none⟩ = some (.int .u32 ((sr (l[k]'hk)).1 : Int)) ∧ W.cell? ⟨g, off + k * 12 + 2, none⟩ = some (.int .i64 ((sr (l[k]'hk)).2 : Int)) ∧
    W.cell? ⟨g, off + k * 12 + 3, none⟩ = some (.int .u32 ((ds (l[k]'hk)).1 : Int)) ∧ W.cell? ⟨g, off + k * 12 + 4, none⟩ = some (.int .i64 ((ds (l[k]'hk)).2 : Int)) := by
  intro W hb k hk
  obtain ⟨g, off, e, hr⟩ := (rngU h).2 W hb k hk
  obtain ⟨e1, e2⟩ := ok_lens (ho _ (List.getElem_mem hk))
  refine ⟨g, off, e, hr 1 _ rfl, ?_, hr 3 _ rfl, ?_⟩
  · have := hr 2 _ rfl
    rw [this]
    show _ = some (Value.int .i64 (((l[k]).sl.toNat : Nat) : Int))
    rw [← e1]
  · have := hr 4 _ rfl
    rw [this]
    show _ = some (Value.int .i64 (((l[k]).dl.toNat : Nat) : Int))
    rw [← e2]
theorem rwitX (a b : Nat × Nat) (w : World) (ha : a.1 < 4294967296) (hb : b.1 < 4294967296) :
    Calls Tryz.prog 64 #[.agg #[.int .u32 (a.1), .int .i64 (a.2)], .agg #[.int .u32 (b.1), .int .i64 (b.2)]] w fun e w' => e = .returned (.bool (witX a b)) ∧ Below w.heap.size w w' := Pf.rwithin_any a.1 a.2 b.1 b.2 w ha hb
set_option maxRecDepth 20000 in
set_option maxHeartbeats 4000000 in
theorem rfirstS (l : List Ru) (v : Value) (i : Nat) (s : Nat × Nat) (w : World) (hs : SrcU w v l) (hl : l.length ≤ 64) (ho : ∀ R ∈ l, BdR R ∧ okR R = true) (hi : i < l.length) (h1 : s.1 < 4294967296) (B : Bool) (hB : B = true ↔ ∀ k (hk : k < l.length), k < i → ¬ (witX s (sr l[k]) = true ∧ sr l[k] = sr l[i])) :
    Calls Tryz.prog 63 #[v, .int .i64 (i : Int), .agg #[.int .u32 (s.1), .int .i64 (s.2)], .bool false] w fun e w' => e = .returned (.bool B) ∧ Below w.heap.size w w' := by
  have HS : Hid (SrcU w v l) := hs
  have HO : Hid (∀ R ∈ l, okR R = true) := fun R hR => (ho R hR).2
  have HO1 : Hid (∀ R ∈ l, R.s < 4294967296) := fun R hR => (ho R hR).1.1
  obtain ⟨ad, cap, rfl, _, _⟩ := hs
  obtain ⟨n, hn⟩ : ∃ n, n = l.length := ⟨_, rfl⟩
  have hin : i < n := by omega
  have hini : (i : Int) < (n : Int) := by omega
  rw [← hn] at HS hl ⊢
  have Hn : Hid (n = l.length) := hn
  have HBB : Hid _ := hB
  clear hn hB ho
  obtain ⟨w0, hw0⟩ : ∃ w0, w0 = w.alloc (.cells #[.int .u32 (s.1 : Int), .int .i64 (s.2 : Int)] 58) := ⟨_, rfl⟩
  have z0 : w0.cell? ⟨w.heap.size, 0, none⟩ = some (.int .u32 (s.1 : Int)) := by rw [hw0]; exact blk_cell (blk_new w _) rfl
  have z1 : w0.cell? ⟨w.heap.size, 1, none⟩ = some (.int .i64 (s.2 : Int)) := by rw [hw0]; exact blk_cell (blk_new w _) rfl
  have HB0 : Hid (Below w.heap.size w w0) := by rw [hw0]; exact (Below.refl _ _).alloc (Nat.le_refl _) _
  have Hz0 : Hid _ := z0
  have Hz1 : Hid _ := z1
  have hw0s : w.alloc (.cells #[.int .u32 (s.1 : Int), .int .i64 (s.2 : Int)] 58) = w0 := hw0.symm
  clear hw0 z0 z1
  go_enter Tryz.func63, Tryz.ntmps63
  go_wp2_with (fail)
  try simp only [hw0s]
  clear hw0s
  go_loopw [9] (fun vk wr => ∃ k : Nat, k ≤ i ∧ vk = .int .i64 (k : Int) ∧ Hid (∀ j (hj : j < l.length), j < k → ¬ (witX s (sr l[j]) = true ∧ sr l[j] = sr l[i])) ∧ Hid (Below w0.heap.size w0 wr)) (fun vk _ => i - (intOf vk).toNat)
  case atStart => exact ⟨0, Nat.zero_le _, rfl, fun j _ hj => by omega, Below.refl _ _⟩
  case round =>
    obtain ⟨k, hk, rfl, HN, HB⟩ := hrel
    have HBw : Hid (Below w.heap.size w wr) := bel_of HB0.out HB.out HB0.out.size
    by_cases hlt : k < i
    · have hlt' : k < l.length := by omega
      have hlti : (k : Int) < (i : Int) := by omega
      have hkn : (k : Int) < (n : Int) := by omega
      obtain ⟨g, off, ea, c1, c2, c3, c4⟩ := rngP HS.out HO.out wr HBw.out k hlt'
      subst ea
      obtain ⟨g', off', e', d1, d2, d3, d4⟩ := rngP HS.out HO.out wr HBw.out i hi
      injection e' with e'
      injection e' with e1 e2
      subst e1 e2
      have z0 := cell_on1 HB.out Hz0.out
      have z1 := cell_on1 HB.out Hz1.out
      have hp1 : (sr l[k]).1 < 4294967296 := HO1.out _ (List.getElem_mem hlt')
      obtain ⟨p, hp⟩ : ∃ p, p = sr l[k] := ⟨_, rfl⟩
      obtain ⟨p', hp'⟩ : ∃ p', p' = ds l[k] := ⟨_, rfl⟩
      obtain ⟨q, hq⟩ : ∃ q, q = sr l[i] := ⟨_, rfl⟩
      obtain ⟨q', hq'⟩ : ∃ q', q' = ds l[i] := ⟨_, rfl⟩
      rw [← hp] at c1 c2 hp1
      rw [← hp'] at c3 c4
      rw [← hq] at d1 d2
      rw [← hq'] at d3 d4
      have Hp : Hid (p = sr l[k] ∧ p' = ds l[k] ∧ q = sr l[i] ∧ q' = ds l[i]) := ⟨hp, hp', hq, hq'⟩
      have hW := fun W => rwitX s p W h1 hp1
      have he := fun W => eqX_any p q W
      have kc1 : ∀ y : Kin wr, y.val.cell? ⟨g, off + k * 12 + 1, none⟩ = _ := fun y => cell_on1 y.is c1
      have kc2 : ∀ y : Kin wr, y.val.cell? ⟨g, off + k * 12 + 2, none⟩ = _ := fun y => cell_on1 y.is c2
      have kc3 : ∀ y : Kin wr, y.val.cell? ⟨g, off + k * 12 + 3, none⟩ = _ := fun y => cell_on1 y.is c3
      have kc4 : ∀ y : Kin wr, y.val.cell? ⟨g, off + k * 12 + 4, none⟩ = _ := fun y => cell_on1 y.is c4
      have kd1 : ∀ y : Kin wr, y.val.cell? ⟨g, off + i * 12 + 1, none⟩ = _ := fun y => cell_on1 y.is d1
      have kd2 : ∀ y : Kin wr, y.val.cell? ⟨g, off + i * 12 + 2, none⟩ = _ := fun y => cell_on1 y.is d2
      have kd3 : ∀ y : Kin wr, y.val.cell? ⟨g, off + i * 12 + 3, none⟩ = _ := fun y => cell_on1 y.is d3
      have kd4 : ∀ y : Kin wr, y.val.cell? ⟨g, off + i * 12 + 4, none⟩ = _ := fun y => cell_on1 y.is d4
      have kz0 : ∀ y : Kin wr, y.val.cell? ⟨w.heap.size, 0, none⟩ = _ := fun y => cell_on1 y.is z0
      have kz1 : ∀ y : Kin wr, y.val.cell? ⟨w.heap.size, 1, none⟩ = _ := fun y => cell_on1 y.is z1
      have kne : Nonempty (Kin wr) := ⟨⟨_, Below.refl _ _⟩⟩
      clear c1 c2 c3 c4 d1 d2 d3 d4 z0 z1 hp hp' hq hq'
      cases hwi : witX s p with
      | false =>
        rw [hwi] at hW
        have HN2 : Hid (∀ j (hj : j < l.length), j < k + 1 → ¬ (witX s (sr l[j]) = true ∧ sr l[j] = sr l[i])) := fun j hj hjk => by
          by_cases e : j = k
          · subst e; rintro ⟨h, _⟩; rw [← Hp.out.1, hwi] at h; cases h
          · exact HN.out j hj (by omega)
        clear hwi he kc3 kc4 kd1 kd2 kd3 kd4
        go_upto_region 4 with (fail)
        refine wp_region_kin wr (Below.refl _ _) (by kernel_rfl) (by kernel_rfl) ?_
        repeat (go_big_quiet_step (first | (go_at_call 64; exact kin_call (hW _))))
        refine wpQuiet_nil ?_
        rintro wq ⟨⟨xq, hxq⟩, hyq⟩
        have hq : Below wr.heap.size wr wq := by rw [hyq]; exact hxq
        have HB2 : Hid (Below w0.heap.size w0 wq) := bel_of HB.out hq HB.out.size
        clear hyq hxq xq kne kc1 kc2 kz0 kz1 hq hW
        go_wp2_with (fail)
        go_roundw
        case rel => exact ⟨k + 1, by omega, by go_num, HN2.out, HB2.out⟩
        case measure => simp [intOf]; omega
      | true =>
        rw [hwi] at hW
        by_cases hpq : p = q
        · rw [decide_eq_true hpq] at he
          have Hno : Hid (B = false) := by
            cases hBc : B with
            | false => rfl
            | true => exact absurd ⟨by rw [← Hp.out.1]; exact hwi, by rw [← Hp.out.1, ← Hp.out.2.2.1]; exact hpq⟩ (HBB.out.1 hBc k hlt' hlt)
          clear hwi hpq
          go_upto_region 4 with (fail)
          refine wp_region_kin wr (Below.refl _ _) (by kernel_rfl) (by kernel_rfl) ?_
          repeat (go_big_quiet_step (first | (go_at_call 64; exact kin_call (hW _))))
          refine wpQuiet_nil ?_
          rintro wq ⟨⟨xq, hxq⟩, hyq⟩
          have hq : Below wr.heap.size wr wq := by rw [hyq]; exact hxq
          have HB2 : Hid (Below w0.heap.size w0 wq) := bel_of HB.out hq HB.out.size
          clear hyq hxq xq kne kc1 kc2 kc3 kc4 kd1 kd2 kd3 kd4 kz0 kz1 hq hW he
          go_wp2_with (fail)
          go_ret
          exact ⟨ret_same Hno.out.symm, bel_of HB0.out HB2.out HB0.out.size⟩
        · rw [decide_eq_false hpq] at he
          have HN2 : Hid (∀ j (hj : j < l.length), j < k + 1 → ¬ (witX s (sr l[j]) = true ∧ sr l[j] = sr l[i])) := fun j hj hjk => by
            by_cases e : j = k
            · subst e; rintro ⟨_, h⟩; rw [← Hp.out.1, ← Hp.out.2.2.1] at h; exact hpq h
            · exact HN.out j hj (by omega)
          clear hwi hpq
          go_upto_region 4 with (fail)
          refine wp_region_kin wr (Below.refl _ _) (by kernel_rfl) (by kernel_rfl) ?_
          repeat (go_big_quiet_step (first | (go_at_call 64; exact kin_call (hW _))))
          refine wpQuiet_nil ?_
          rintro wq ⟨⟨xq, hxq⟩, hyq⟩
          have hq : Below wr.heap.size wr wq := by rw [hyq]; exact hxq
          have HB2 : Hid (Below w0.heap.size w0 wq) := bel_of HB.out hq HB.out.size
          clear hyq hxq xq kne kc1 kc2 kc3 kc4 kd1 kd2 kd3 kd4 kz0 kz1 hq hW he
          go_wp2_with (fail)
          go_roundw
          case rel => exact ⟨k + 1, by omega, by go_num, HN2.out, HB2.out⟩
          case measure => simp [intOf]; omega
    · obtain rfl : k = i := by omega
      have hnk : ¬ (k : Int) < (k : Int) := by omega
      have Hyes : Hid (B = true) := HBB.out.2 HN.out
      go_wp2_with (fail)
      go_ret
      exact ⟨ret_same Hyes.out.symm, HBw.out⟩
set_option maxRecDepth 20000 in
set_option maxHeartbeats 4000000 in
theorem rfirstD (l : List Ru) (v : Value) (i : Nat) (s : Nat × Nat) (w : World) (hs : SrcU w v l) (hl : l.length ≤ 64) (ho : ∀ R ∈ l, BdR R ∧ okR R = true) (hi : i < l.length) (h1 : s.1 < 4294967296) (B : Bool) (hB : B = true ↔ ∀ k (hk : k < l.length), k < i → ¬ (witX s (sr l[k]) = true ∧ ds l[k] = ds l[i])) :
    Calls Tryz.prog 63 #[v, .int .i64 (i : Int), .agg #[.int .u32 (s.1), .int .i64 (s.2)], .bool true] w fun e w' => e = .returned (.bool B) ∧ Below w.heap.size w w' := by
  have HS : Hid (SrcU w v l) := hs
  have HO : Hid (∀ R ∈ l, okR R = true) := fun R hR => (ho R hR).2
  have HO1 : Hid (∀ R ∈ l, R.s < 4294967296) := fun R hR => (ho R hR).1.1
  obtain ⟨ad, cap, rfl, _, _⟩ := hs
  obtain ⟨n, hn⟩ : ∃ n, n = l.length := ⟨_, rfl⟩
  have hin : i < n := by omega
  have hini : (i : Int) < (n : Int) := by omega
  rw [← hn] at HS hl ⊢
  have Hn : Hid (n = l.length) := hn
  have HBB : Hid _ := hB
  clear hn hB ho
  obtain ⟨w0, hw0⟩ : ∃ w0, w0 = w.alloc (.cells #[.int .u32 (s.1 : Int), .int .i64 (s.2 : Int)] 58) := ⟨_, rfl⟩
  have z0 : w0.cell? ⟨w.heap.size, 0, none⟩ = some (.int .u32 (s.1 : Int)) := by rw [hw0]; exact blk_cell (blk_new w _) rfl
  have z1 : w0.cell? ⟨w.heap.size, 1, none⟩ = some (.int .i64 (s.2 : Int)) := by rw [hw0]; exact blk_cell (blk_new w _) rfl
  have HB0 : Hid (Below w.heap.size w w0) := by rw [hw0]; exact (Below.refl _ _).alloc (Nat.le_refl _) _
  have Hz0 : Hid _ := z0
  have Hz1 : Hid _ := z1
  have hw0s : w.alloc (.cells #[.int .u32 (s.1 : Int), .int .i64 (s.2 : Int)] 58) = w0 := hw0.symm
  clear hw0 z0 z1
  go_enter Tryz.func63, Tryz.ntmps63
  go_wp2_with (fail)
  try simp only [hw0s]
  clear hw0s
  go_loopw [9] (fun vk wr => ∃ k : Nat, k ≤ i ∧ vk = .int .i64 (k : Int) ∧ Hid (∀ j (hj : j < l.length), j < k → ¬ (witX s (sr l[j]) = true ∧ ds l[j] = ds l[i])) ∧ Hid (Below w0.heap.size w0 wr)) (fun vk _ => i - (intOf vk).toNat)
  case atStart => exact ⟨0, Nat.zero_le _, rfl, fun j _ hj => by omega, Below.refl _ _⟩
  case round =>
    obtain ⟨k, hk, rfl, HN, HB⟩ := hrel
    have HBw : Hid (Below w.heap.size w wr) := bel_of HB0.out HB.out HB0.out.size
    by_cases hlt : k < i
    · have hlt' : k < l.length := by omega
      have hlti : (k : Int) < (i : Int) := by omega
      have hkn : (k : Int) < (n : Int) := by omega
      obtain ⟨g, off, ea, c1, c2, c3, c4⟩ := rngP HS.out HO.out wr HBw.out k hlt'
      subst ea
      obtain ⟨g', off', e', d1, d2, d3, d4⟩ := rngP HS.out HO.out wr HBw.out i hi
      injection e' with e'
      injection e' with e1 e2
      subst e1 e2
      have z0 := cell_on1 HB.out Hz0.out
      have z1 := cell_on1 HB.out Hz1.out
      have hp1 : (sr l[k]).1 < 4294967296 := HO1.out _ (List.getElem_mem hlt')
      obtain ⟨p, hp⟩ : ∃ p, p = sr l[k] := ⟨_, rfl⟩
      obtain ⟨p', hp'⟩ : ∃ p', p' = ds l[k] := ⟨_, rfl⟩
      obtain ⟨q, hq⟩ : ∃ q, q = sr l[i] := ⟨_, rfl⟩
      obtain ⟨q', hq'⟩ : ∃ q', q' = ds l[i] := ⟨_, rfl⟩
      rw [← hp] at c1 c2 hp1
      rw [← hp'] at c3 c4
      rw [← hq] at d1 d2
      rw [← hq'] at d3 d4
      have Hp : Hid (p = sr l[k] ∧ p' = ds l[k] ∧ q = sr l[i] ∧ q' = ds l[i]) := ⟨hp, hp', hq, hq'⟩
      have hW := fun W => rwitX s p W h1 hp1
      have he := fun W => eqX_any p' q' W
      have kc1 : ∀ y : Kin wr, y.val.cell? ⟨g, off + k * 12 + 1, none⟩ = _ := fun y => cell_on1 y.is c1
      have kc2 : ∀ y : Kin wr, y.val.cell? ⟨g, off + k * 12 + 2, none⟩ = _ := fun y => cell_on1 y.is c2
      have kc3 : ∀ y : Kin wr, y.val.cell? ⟨g, off + k * 12 + 3, none⟩ = _ := fun y => cell_on1 y.is c3
      have kc4 : ∀ y : Kin wr, y.val.cell? ⟨g, off + k * 12 + 4, none⟩ = _ := fun y => cell_on1 y.is c4
      have kd1 : ∀ y : Kin wr, y.val.cell? ⟨g, off + i * 12 + 1, none⟩ = _ := fun y => cell_on1 y.is d1
      have kd2 : ∀ y : Kin wr, y.val.cell? ⟨g, off + i * 12 + 2, none⟩ = _ := fun y => cell_on1 y.is d2
      have kd3 : ∀ y : Kin wr, y.val.cell? ⟨g, off + i * 12 + 3, none⟩ = _ := fun y => cell_on1 y.is d3
      have kd4 : ∀ y : Kin wr, y.val.cell? ⟨g, off + i * 12 + 4, none⟩ = _ := fun y => cell_on1 y.is d4
      have kz0 : ∀ y : Kin wr, y.val.cell? ⟨w.heap.size, 0, none⟩ = _ := fun y => cell_on1 y.is z0
      have kz1 : ∀ y : Kin wr, y.val.cell? ⟨w.heap.size, 1, none⟩ = _ := fun y => cell_on1 y.is z1
      have kne : Nonempty (Kin wr) := ⟨⟨_, Below.refl _ _⟩⟩
      clear c1 c2 c3 c4 d1 d2 d3 d4 z0 z1 hp hp' hq hq'
      cases hwi : witX s p with
      | false =>
        rw [hwi] at hW
        have HN2 : Hid (∀ j (hj : j < l.length), j < k + 1 → ¬ (witX s (sr l[j]) = true ∧ ds l[j] = ds l[i])) := fun j hj hjk => by
          by_cases e : j = k
          · subst e; rintro ⟨h, _⟩; rw [← Hp.out.1, hwi] at h; cases h
          · exact HN.out j hj (by omega)
        clear hwi he kc3 kc4 kd1 kd2 kd3 kd4
        go_upto_region 4 with (fail)
        refine wp_region_kin wr (Below.refl _ _) (by kernel_rfl) (by kernel_rfl) ?_
        repeat (go_big_quiet_step (first | (go_at_call 64; exact kin_call (hW _))))
        refine wpQuiet_nil ?_
        rintro wq ⟨⟨xq, hxq⟩, hyq⟩
        have hq : Below wr.heap.size wr wq := by rw [hyq]; exact hxq
        have HB2 : Hid (Below w0.heap.size w0 wq) := bel_of HB.out hq HB.out.size
        clear hyq hxq xq kne kc1 kc2 kz0 kz1 hq hW
        go_wp2_with (fail)
        go_roundw
        case rel => exact ⟨k + 1, by omega, by go_num, HN2.out, HB2.out⟩
        case measure => simp [intOf]; omega
      | true =>
        rw [hwi] at hW
        by_cases hpq : p' = q'
        · rw [decide_eq_true hpq] at he
          have Hno : Hid (B = false) := by
            cases hBc : B with
            | false => rfl
            | true => exact absurd ⟨by rw [← Hp.out.1]; exact hwi, by rw [← Hp.out.2.1, ← Hp.out.2.2.2]; exact hpq⟩ (HBB.out.1 hBc k hlt' hlt)
          clear hwi hpq
          go_upto_region 4 with (fail)
          refine wp_region_kin wr (Below.refl _ _) (by kernel_rfl) (by kernel_rfl) ?_
          repeat (go_big_quiet_step (first | (go_at_call 64; exact kin_call (hW _))))
          refine wpQuiet_nil ?_
          rintro wq ⟨⟨xq, hxq⟩, hyq⟩
          have hq : Below wr.heap.size wr wq := by rw [hyq]; exact hxq
          have HB2 : Hid (Below w0.heap.size w0 wq) := bel_of HB.out hq HB.out.size
          clear hyq hxq xq kne kc1 kc2 kc3 kc4 kd1 kd2 kd3 kd4 kz0 kz1 hq hW he
          go_wp2_with (fail)
          go_ret
          exact ⟨ret_same Hno.out.symm, bel_of HB0.out HB2.out HB0.out.size⟩
        · rw [decide_eq_false hpq] at he
          have HN2 : Hid (∀ j (hj : j < l.length), j < k + 1 → ¬ (witX s (sr l[j]) = true ∧ ds l[j] = ds l[i])) := fun j hj hjk => by
            by_cases e : j = k
            · subst e; rintro ⟨_, h⟩; rw [← Hp.out.2.1, ← Hp.out.2.2.2] at h; exact hpq h
            · exact HN.out j hj (by omega)
          clear hwi hpq
          go_upto_region 4 with (fail)
          refine wp_region_kin wr (Below.refl _ _) (by kernel_rfl) (by kernel_rfl) ?_
          repeat (go_big_quiet_step (first | (go_at_call 64; exact kin_call (hW _))))
          refine wpQuiet_nil ?_
          rintro wq ⟨⟨xq, hxq⟩, hyq⟩
          have hq : Below wr.heap.size wr wq := by rw [hyq]; exact hxq
          have HB2 : Hid (Below w0.heap.size w0 wq) := bel_of HB.out hq HB.out.size
          clear hyq hxq xq kne kc1 kc2 kc3 kc4 kd1 kd2 kd3 kd4 kz0 kz1 hq hW he
          go_wp2_with (fail)
          go_roundw
          case rel => exact ⟨k + 1, by omega, by go_num, HN2.out, HB2.out⟩
          case measure => simp [intOf]; omega
    · obtain rfl : k = i := by omega
      have hnk : ¬ (k : Int) < (k : Int) := by omega
      have Hyes : Hid (B = true) := HBB.out.2 HN.out
      go_wp2_with (fail)
      go_ret
      exact ⟨ret_same Hyes.out.symm, HBw.out⟩
end Go.Proofs.YtgidohnikggjfaaGreat
/-
  The document's Grid.
-/
namespace Go.Proofs.YtgidohnikggjfaaGreat
open Go.RowKit
set_option linter.unusedVariables false
set_option linter.unusedSimpArgs false

theorem set_okay {l : List Ru} (hb : ∀ R ∈ l, BdR R) (h0 : setE l 64 = 0) : l.length ≤ 64 ∧ ∀ R ∈ l, BdR R ∧ okR R = true := by
  have o := setE_ok h0
  refine ⟨?_, fun R hR => ⟨hb R hR, ?_⟩⟩
  · rcases o.few with e | e
    · rw [e]; simp
    · omega
  · obtain ⟨k, hk, rfl⟩ := List.mem_iff_getElem.1 hR
    exact o.may k hk
theorem cntR_step {q : Ru → Bool} {l : List Ru} {k : Nat} (hk : k < l.length) : (l.take (k + 1)).countP q = (l.take k).countP q + if q l[k] then 1 else 0 := by
  rw [take_at hk, List.countP_append, List.countP_singleton]
theorem first_sr {l : List Ru} {i : Nat} (hi : i < l.length) (hw : witX (sr l[i]) (sr l[i]) = true) : decide (sr l[i] ∉ (l.take i).map sr) = true ↔ ∀ k (hk : k < l.length), k < i → ¬ (witX (sr l[i]) (sr l[k]) = true ∧ sr l[k] = sr l[i]) := by
  rw [decide_eq_true_eq]
  constructor
  · rintro h k hk hki ⟨_, e⟩
    refine h (List.mem_map.2 ⟨l[k], ?_, e⟩)
    exact List.mem_iff_getElem.2 ⟨k, by rw [List.length_take]; omega, by rw [List.getElem_take]⟩
  · intro h hm
    obtain ⟨R, hR, e⟩ := List.mem_map.1 hm
    obtain ⟨k, hk, rfl⟩ := List.mem_iff_getElem.1 hR
    rw [List.length_take] at hk
    rw [List.getElem_take] at e
    exact h k (by omega) (by omega) ⟨by rw [e]; exact hw, e⟩
set_option maxRecDepth 20000 in
set_option maxHeartbeats 4000000 in
theorem rGridC (l : List Ru) (v : Value) (w : World) (hs : SrcU w v l) (hb : ∀ R ∈ l, BdR R) :
    Calls Tryz.prog 42 #[v] w fun e w' => e = .returned (.tuple #[.int .i64 (grdL l : Nat), .int .i64 (setE l 64)]) ∧ Below w.heap.size w w' := by
  have hC := rlistC l v w hs hb
  have HS : Hid (SrcU w v l) := hs
  by_cases h0 : setE l 64 = 0
  · obtain ⟨o1, o2⟩ := set_okay hb h0
    have HG : Hid (grdL l = sumF (fun p => (l.map sr).countP (witX p)) (uq ((l.take l.length).map sr))) := by
      show grdL l = _
      unfold grdL grdN hel; rw [if_pos h0, map_sr, List.take_length]
    have HO : Hid (∀ R ∈ l, BdR R ∧ okR R = true) := o2
    have HO2 : Hid (∀ R ∈ l, okR R = true) := fun R hR => (o2 R hR).2
    obtain ⟨ad, cap, rfl, _, _⟩ := hs
    obtain ⟨n, hn⟩ : ∃ n, n = l.length := ⟨_, rfl⟩
    have hn64 : n ≤ 64 := by omega
    rw [← hn] at HS HG hC ⊢
    have Hn : Hid (n = l.length) := hn
    generalize grdL l = G at *
    rw [h0] at hC ⊢
    clear h0 o1 o2 hb hn
    go_enter Tryz.func42, Tryz.ntmps42
    go_wp2_with (fail)
    refine hC.mono ?_
    rintro e w1 ⟨rfl, hb1⟩
    have HB1 : Hid (Below w.heap.size w w1) := hb1
    clear hC hb1
    obtain ⟨f, hf⟩ : ∃ f : Nat × Nat → Nat, f = fun p => (l.map sr).countP (witX p) := ⟨_, rfl⟩
    rw [← hf] at HG
    have Hf : Hid (f = fun p => (l.map sr).countP (witX p)) := hf
    have Hfb : Hid (∀ x, f x ≤ 64) := fun x => by rw [hf]; exact Nat.le_trans List.countP_le_length (by rw [List.length_map, ← Hn.out]; exact hn64)
    clear hf
    go_wp2_with (fail)
    go_loopw [5, 6] (fun vs vi wr => ∃ i : Nat, i ≤ n ∧ vs = .int .i64 ((sumF f (uq ((l.take i).map sr)) : Nat) : Int) ∧ vi = .int .i64 (i : Int) ∧ Hid (Below w.heap.size w wr)) (fun _ vi _ => n - (intOf vi).toNat)
    case atStart => exact ⟨0, Nat.zero_le _, rfl, rfl, HB1.out⟩
    case round =>
      obtain ⟨i, hi, rfl, rfl, HB⟩ := hrel
      clear HB1
      by_cases hlt : i < n
      · have hlt' : i < l.length := by rw [← Hn.out]; exact hlt
        have hlti : (i : Int) < (n : Int) := by omega
        have hR := HO.out _ (List.getElem_mem hlt')
        have hx := okR_sr hR.2 hR.1
        have hB := first_sr hlt' (witX_self hx.1)
        have hst : sumF f (uq ((l.take (i + 1)).map sr)) = sumF f (uq ((l.take i).map sr)) + if sr l[i] ∈ (l.take i).map sr then 0 else f (sr l[i]) := by
          rw [take_at hlt', List.map_append]; exact uq_app_sum f _ _
        have hbo : sumF f (uq ((l.take i).map sr)) ≤ 4096 := by
          have h1 := sumF_bound (f := f) (l := uq ((l.take i).map sr)) (k := 64) (fun x _ => Hfb.out x)
          have h2 := uq_len ((l.take i).map sr)
          rw [List.length_map, List.length_take] at h2
          have : (uq ((l.take i).map sr)).length * 64 ≤ 64 * 64 := Nat.mul_le_mul_right _ (by omega)
          omega
        obtain ⟨g, off, ea, c1, c2, _, _⟩ := rngP HS.out HO2.out wr HB.out i hlt'
        subst ea
        have hF := fun W (hb : Below w.heap.size w W) => rfirstS l _ i (sr l[i]) W (HS.out.keep hb) (by rw [← Hn.out]; exact hn64) HO.out hlt' hx.1.1 _ hB
        have hs1 : (sr l[i]).1 < 4294967296 := hx.1.1
        clear hB hx hR
        obtain ⟨s, hss⟩ : ∃ s, s = sr l[i] := ⟨_, rfl⟩
        rw [← hss] at c1 c2 hF hst hs1
        clear hss
        have Hst : Hid _ := hst
        generalize sumF f (uq ((l.take i).map sr)) = S0 at *
        clear hst
        obtain ⟨W1, hW1⟩ : ∃ W1, W1 = wr.alloc (.cells #[.int .u32 (s.1 : Int), .int .i64 (s.2 : Int)] 58) := ⟨_, rfl⟩
        have z0 : W1.cell? ⟨wr.heap.size, 0, none⟩ = some (.int .u32 (s.1 : Int)) := by rw [hW1]; exact blk_cell (blk_new wr _) rfl
        have z1 : W1.cell? ⟨wr.heap.size, 1, none⟩ = some (.int .i64 (s.2 : Int)) := by rw [hW1]; exact blk_cell (blk_new wr _) rfl
        have HBW : Hid (Below w.heap.size w W1) := by show Below _ _ _; rw [hW1]; exact HB.out.alloc HB.out.size _
        have hF1 := hF W1 HBW.out
        have Hz0 : Hid (W1.cell? ⟨wr.heap.size, 0, none⟩ = some (.int .u32 (s.1 : Int))) := z0
        have Hz1 : Hid (W1.cell? ⟨wr.heap.size, 1, none⟩ = some (.int .i64 (s.2 : Int))) := z1
        clear hF z0 z1
        subst hW1
        go_wp2_with (go_at_call 63; fail)
        refine hF1.mono ?_
        rintro e w3 ⟨rfl, hb3⟩
        have HB3 : Hid (Below w.heap.size w w3) := bel_of HBW.out hb3 HBW.out.size
        have Hy0 : Hid (w3.cell? ⟨wr.heap.size, 0, none⟩ = some (.int .u32 (s.1 : Int))) := cell_on1 hb3 Hz0.out
        have Hy1 : Hid (w3.cell? ⟨wr.heap.size, 1, none⟩ = some (.int .i64 (s.2 : Int))) := cell_on1 hb3 Hz1.out
        clear hb3 hF1 Hz0 Hz1 HBW c1 c2
        by_cases hm : s ∈ (l.take i).map sr
        · have hm' : decide (s ∉ (l.take i).map sr) = false := decide_eq_false (fun h => h hm)
          have Hnx : Hid (sumF f (uq ((l.take (i + 1)).map sr)) = S0) := by show _ = _; rw [Hst.out, if_pos hm]; rfl
          rw [hm']
          clear hm hm' Hst
          go_wp2_with (fail)
          go_roundw
          case rel => exact ⟨i + 1, by omega, by rw [Hnx.out], by go_num, HB3.out⟩
          case measure => simp [intOf]; omega
        · have hm' : decide (s ∉ (l.take i).map sr) = true := decide_eq_true hm
          have Hnx : Hid (sumF f (uq ((l.take (i + 1)).map sr)) = S0 + (l.take l.length).countP (fun R => witX s (sr R))) := by
            show _ = _
            rw [Hst.out, if_neg hm, Hf.out, List.take_length]
            show S0 + (l.map sr).countP (witX s) = _
            rw [List.countP_map]; rfl
          rw [hm']
          clear hm hm' Hst HB
          generalize wr.heap.size = Bs at *
          go_wp2_with (fail)
          go_loopw [5, 8] (fun vs vk wr => ∃ k : Nat, k ≤ n ∧ vs = .int .i64 ((S0 + (l.take k).countP (fun R => witX s (sr R)) : Nat) : Int) ∧ vk = .int .i64 (k : Int) ∧ Hid (Below w3.heap.size w3 wr)) (fun _ vk _ => n - (intOf vk).toNat)
          case atStart => exact ⟨0, Nat.zero_le _, by simp, rfl, Below.refl _ _⟩
          case round =>
            obtain ⟨k, hk, rfl, rfl, HBk⟩ := hrel
            have HBw : Hid (Below w.heap.size w wr) := bel_of HB3.out HBk.out HB3.out.size
            by_cases hltk : k < n
            · have hltk' : k < l.length := by rw [← Hn.out]; exact hltk
              have hltki : (k : Int) < (n : Int) := by omega
              obtain ⟨g', off', e', c1, c2, _, _⟩ := rngP HS.out HO2.out wr HBw.out k hltk'
              injection e' with e'
              injection e' with e1 e2
              subst e1 e2
              have hct := cntR_step (q := fun R => witX s (sr R)) hltk'
              have hcb : (l.take k).countP (fun R => witX s (sr R)) ≤ 64 := Nat.le_trans List.countP_le_length (by rw [List.length_take]; omega)
              have hp1 : (sr l[k]).1 < 4294967296 := (HO.out _ (List.getElem_mem hltk')).1.1
              obtain ⟨p, hp⟩ : ∃ p, p = sr l[k] := ⟨_, rfl⟩
              have hct2 : (l.take (k + 1)).countP (fun R => witX s (sr R)) = (l.take k).countP (fun R => witX s (sr R)) + if witX s p then 1 else 0 := by rw [hct, hp]
              rw [← hp] at c1 c2 hp1
              have Hct : Hid _ := hct2
              clear hct hct2 hp
              have hW := fun W => rwitX s p W hs1 hp1
              generalize (l.take k).countP (fun R => witX s (sr R)) = C at *
              have z0 := cell_on1 HBk.out Hy0.out
              have z1 := cell_on1 HBk.out Hy1.out
              have kc1 : ∀ y : Kin wr, y.val.cell? ⟨g, off + k * 12 + 1, none⟩ = _ := fun y => cell_on1 y.is c1
              have kc2 : ∀ y : Kin wr, y.val.cell? ⟨g, off + k * 12 + 2, none⟩ = _ := fun y => cell_on1 y.is c2
              have kz0 : ∀ y : Kin wr, y.val.cell? ⟨Bs, 0, none⟩ = _ := fun y => cell_on1 y.is z0
              have kz1 : ∀ y : Kin wr, y.val.cell? ⟨Bs, 1, none⟩ = _ := fun y => cell_on1 y.is z1
              have kne : Nonempty (Kin wr) := ⟨⟨_, Below.refl _ _⟩⟩
              clear c1 c2 z0 z1
              go_upto_region 13 with (fail)
              refine wp_region_kin wr (Below.refl _ _) (by kernel_rfl) (by kernel_rfl) ?_
              repeat (go_big_quiet_step (first | (go_at_call 64; exact kin_call (hW _))))
              refine wpQuiet_nil ?_
              rintro wq ⟨⟨xq, hxq⟩, hyq⟩
              have hq : Below wr.heap.size wr wq := by rw [hyq]; exact hxq
              have HB2 : Hid (Below w3.heap.size w3 wq) := bel_of HBk.out hq HBk.out.size
              clear hyq hxq xq kne kc1 kc2 kz0 kz1 hq hW
              cases hwi : witX s p with
              | false =>
                have Hn2 : Hid ((l.take (k + 1)).countP (fun R => witX s (sr R)) = C) := by have := Hct.out; rw [hwi] at this; show _ = _; simpa using this
                clear hwi Hct
                go_wp2_with (fail)
                go_roundw
                case rel => exact ⟨k + 1, by omega, by rw [Hn2.out], by go_num, HB2.out⟩
                case measure => simp [intOf]; omega
              | true =>
                have Hn2 : Hid ((l.take (k + 1)).countP (fun R => witX s (sr R)) = C + 1) := by have := Hct.out; rw [hwi] at this; show _ = _; simpa using this
                clear hwi Hct
                go_wp2_with (fail)
                go_roundw
                case rel => exact ⟨k + 1, by omega, by rw [Hn2.out]; go_num, by go_num, HB2.out⟩
                case measure => simp [intOf]; omega
            · obtain rfl : k = n := by omega
              have hnk : ¬ (k : Int) < (k : Int) := by omega
              have Hnx2 : Hid (S0 + (l.take k).countP (fun R => witX s (sr R)) = sumF f (uq ((l.take (i + 1)).map sr))) := by show _ = _; rw [Hnx.out, ← Hn.out]
              rw [Hnx2.out]
              clear Hnx Hnx2
              go_wp2_with (fail)
              go_roundw
              case rel => exact ⟨i + 1, by omega, rfl, by go_num, HBw.out⟩
              case measure => simp [intOf]; omega
      · obtain rfl : i = n := by omega
        have hni : ¬ (i : Int) < (i : Int) := by omega
        rw [← HG.out]
        go_wp2
        go_ret2
        exact ⟨rfl, HB.out⟩
  · have hG : grdL l = 0 := if_neg h0
    rw [hG]
    have h0' : (setE l 64 != 0) = true := by simpa using h0
    clear hG
    generalize setE l 64 = E at *
    go_enter Tryz.func42, Tryz.ntmps42
    go_wp2_with (fail)
    refine hC.mono ?_
    rintro e w1 ⟨rfl, hb1⟩
    have HB1 : Hid (Below w.heap.size w w1) := hb1
    clear hC hb1
    go_wp2
    go_ret2
    exact ⟨rfl, HB1.out⟩
end Go.Proofs.YtgidohnikggjfaaGreat
/-
  The document's Prune.
-/
namespace Go.Proofs.YtgidohnikggjfaaGreat
open Go.RowKit
set_option linter.unusedVariables false
set_option linter.unusedSimpArgs false

theorem mem_tgs {L : List Ru} {s x : Nat × Nat} : x ∈ tgs witX (L.map pr) s ↔ ∃ R ∈ L, witX s (sr R) = true ∧ ds R = x := by
  unfold tgs
  rw [List.mem_map]
  constructor
  · rintro ⟨r, hr, rfl⟩
    obtain ⟨h1, h2⟩ := List.mem_filter.1 hr
    obtain ⟨R, hR, rfl⟩ := List.mem_map.1 h1
    exact ⟨R, hR, h2, rfl⟩
  · rintro ⟨R, hR, h1, rfl⟩
    exact ⟨pr R, List.mem_filter.2 ⟨List.mem_map.2 ⟨R, hR, rfl⟩, h1⟩, rfl⟩
theorem first_ds {l : List Ru} {i : Nat} (hi : i < l.length) (s : Nat × Nat) : decide (ds l[i] ∉ tgs witX ((l.take i).map pr) s) = true ↔ ∀ k (hk : k < l.length), k < i → ¬ (witX s (sr l[k]) = true ∧ ds l[k] = ds l[i]) := by
  rw [decide_eq_true_eq, mem_tgs]
  constructor
  · rintro h k hk hki ⟨h1, h2⟩
    exact h ⟨l[k], List.mem_iff_getElem.2 ⟨k, by rw [List.length_take]; omega, by rw [List.getElem_take]⟩, h1, h2⟩
  · rintro h ⟨R, hR, h1, h2⟩
    obtain ⟨k, hk, rfl⟩ := List.mem_iff_getElem.1 hR
    rw [List.length_take] at hk
    rw [List.getElem_take] at h1 h2
    exact h k (by omega) (by omega) ⟨h1, h2⟩
theorem tgs_cnt (l : List Ru) (s d : Nat × Nat) : (tgs witX (l.map pr) s).countP (witX d) = l.countP (fun R => witX s (sr R) && witX d (ds R)) := by
  induction l with
  | nil => rfl
  | cons R l ih =>
    unfold tgs at ih ⊢
    simp only [List.map_cons, List.filter_cons, List.countP_cons]
    have e1 : (pr R).1 = sr R := rfl
    have e2 : (pr R).2 = ds R := rfl
    rw [e1]
    cases h1 : witX s (sr R)
    · simp [ih]
    · simp only [if_true, List.map_cons, List.countP_cons, e2, Bool.true_and, ih]
theorem tgs_short (l : List Ru) (s : Nat × Nat) : (tgs witX (l.map pr) s).length ≤ l.length := by
  rw [tgs_len]; exact Nat.le_trans List.countP_le_length (by simp)
theorem tgs_step {l : List Ru} {k : Nat} (hk : k < l.length) (s : Nat × Nat) : tgs witX ((l.take (k + 1)).map pr) s = if witX s (sr l[k]) then tgs witX ((l.take k).map pr) s ++ [ds l[k]] else tgs witX ((l.take k).map pr) s := by
  rw [take_at hk, List.map_append]; exact tgs_app _ _ _
end Go.Proofs.YtgidohnikggjfaaGreat
/-
  The document's Pairs.
-/
namespace Go.Proofs.YtgidohnikggjfaaGreat
open Go.RowKit
set_option linter.unusedVariables false
set_option linter.unusedSimpArgs false

set_option maxRecDepth 20000 in
set_option maxHeartbeats 4000000 in
theorem rPairsC (l : List Ru) (h : Hd) (v : Value) (w : World) (hs : SrcU w v l) (hl : l.length ≤ 16777216) (hb : ∀ R ∈ l, BdR R) (ho : OkH h) :
    Calls Tryz.prog 21 #[v, .agg #[.int .u32 (h.s : Int), .int .u32 (h.d : Int), .int .u16 (h.p : Int), .int .u16 (h.q : Int), .int .u8 (h.r : Int)]] w fun e w' => e = .returned (.int .i64 (prsN l h : Nat)) ∧ Below w.heap.size w w' := by
  have HS : Hid (SrcU w v l) := hs
  have HBd : Hid (∀ R ∈ l, BdR R) := hb
  obtain ⟨ad, cap, rfl, _, _⟩ := hs
  obtain ⟨n, hn⟩ : ∃ n, n = l.length := ⟨_, rfl⟩
  rw [← hn] at HS hl ⊢
  have Hn : Hid (n = l.length) := hn
  have Hend : Hid (prsN l h = (l.take n).countP (prsB h)) := by rw [hn, List.take_length]; rfl
  clear hn hb
  obtain ⟨A0, hA0⟩ : ∃ A, A = prsN l h := ⟨_, rfl⟩
  rw [← hA0] at Hend ⊢
  clear hA0
  obtain ⟨w0, hw0⟩ : ∃ w0, w0 = w.alloc (.cells #[.int .u32 (h.s : Int), .int .u32 (h.d : Int), .int .u16 (h.p : Int), .int .u16 (h.q : Int), .int .u8 (h.r : Int)] 28) := ⟨_, rfl⟩
  have z0 : w0.cell? ⟨w.heap.size, 0, none⟩ = some (.int .u32 (h.s : Int)) := by rw [hw0]; exact blk_cell (blk_new w _) rfl
  have z1 : w0.cell? ⟨w.heap.size, 1, none⟩ = some (.int .u32 (h.d : Int)) := by rw [hw0]; exact blk_cell (blk_new w _) rfl
  have HB0 : Hid (Below w.heap.size w w0) := by rw [hw0]; exact (Below.refl _ _).alloc (Nat.le_refl _) _
  have Hz0 : Hid _ := z0
  have Hz1 : Hid _ := z1
  have hw0s : w.alloc (.cells #[.int .u32 (h.s : Int), .int .u32 (h.d : Int), .int .u16 (h.p : Int), .int .u16 (h.q : Int), .int .u8 (h.r : Int)] 28) = w0 := hw0.symm
  clear hw0 z0 z1
  obtain ⟨ho1, ho2, _⟩ := ho
  go_enter Tryz.func21, Tryz.ntmps21
  go_wp2_with (fail)
  try simp only [hw0s]
  clear hw0s
  go_loopw [5, 6] (fun vs vi wr => ∃ k : Nat, k ≤ n ∧ vs = .int .i64 (((l.take k).countP (prsB h) : Nat) : Int) ∧ vi = .int .i64 (k : Int) ∧ Hid (Below w0.heap.size w0 wr)) (fun _ vi _ => n - (intOf vi).toNat)
  case atStart => exact ⟨0, Nat.zero_le _, rfl, rfl, Below.refl _ _⟩
  case round =>
    obtain ⟨k, hk, rfl, rfl, HB⟩ := hrel
    have HBw : Hid (Below w.heap.size w wr) := bel_of HB0.out HB.out HB0.out.size
    by_cases hlt : k < n
    · have hlt' : k < l.length := by rw [← Hn.out]; exact hlt
      have hlti : (k : Int) < (n : Int) := by omega
      obtain ⟨g, off, ea, hrg⟩ := HS.out.rng.2 wr HBw.out k hlt'
      subst ea
      have hst := prs_step (h := h) hlt'
      have hbd := HBd.out _ (List.getElem_mem hlt')
      obtain ⟨p, hp⟩ : ∃ p, p = l[k] := ⟨_, rfl⟩
      rw [← hp] at hrg hst hbd
      clear hp
      have x1 : wr.cell? ⟨g, off + k * 12 + 1, none⟩ = some (.int .u32 (p.s : Int)) := hrg 1 _ rfl
      have x2 : wr.cell? ⟨g, off + k * 12 + 2, none⟩ = some (.int .i64 p.sl) := hrg 2 _ rfl
      have x3 : wr.cell? ⟨g, off + k * 12 + 3, none⟩ = some (.int .u32 (p.d : Int)) := hrg 3 _ rfl
      have x4 : wr.cell? ⟨g, off + k * 12 + 4, none⟩ = some (.int .i64 p.dl) := hrg 4 _ rfl
      have z0 := cell_on1 HB.out Hz0.out
      have z1 := cell_on1 HB.out Hz1.out
      have hM : ∀ W, Calls Tryz.prog 40 #[.agg (encU p).toArray] W fun e w' => e = .returned (.bool (okR p)) ∧ Below W.heap.size W w' := fun W => rmayR p W hbd
      have hi : (Tryz.prog.info? 64).map (·.size) = some (encU p).toArray.size := infoXU
      have hg' : wr.rangeAt g (off + k * 12) (encU p).toArray.toList := hrg
      have hH1 := fun W => Pf.rhas_any p.s p.sl h.s W hbd.1 ho1
      have hH2 := fun W => Pf.rhas_any p.d p.dl h.d W hbd.2.1 ho2
      have Hst : Hid (((l.take (k + 1)).countP (prsB h)) = (l.take k).countP (prsB h) + if prsB h p then 1 else 0) := hst
      have hCb : (l.take k).countP (prsB h) ≤ 16777216 := Nat.le_trans List.countP_le_length (by rw [List.length_take]; omega)
      have Hpq : Hid (prsB h p = (okR p && (Pf.hasB p.s p.sl h.s && Pf.hasB p.d p.dl h.d))) := rfl
      clear hrg hst hbd
      generalize (encU p).toArray = A at *
      generalize (l.take k).countP (prsB h) = C at *
      have H1 : Hid _ := hg'
      have Hi : Hid _ := hi
      have kx1 : ∀ y : Kin wr, y.val.cell? ⟨g, off + k * 12 + 1, none⟩ = _ := fun y => cell_on1 y.is x1
      have kx2 : ∀ y : Kin wr, y.val.cell? ⟨g, off + k * 12 + 2, none⟩ = _ := fun y => cell_on1 y.is x2
      have kx3 : ∀ y : Kin wr, y.val.cell? ⟨g, off + k * 12 + 3, none⟩ = _ := fun y => cell_on1 y.is x3
      have kx4 : ∀ y : Kin wr, y.val.cell? ⟨g, off + k * 12 + 4, none⟩ = _ := fun y => cell_on1 y.is x4
      have kz0 : ∀ y : Kin wr, y.val.cell? ⟨w.heap.size, 0, none⟩ = _ := fun y => cell_on1 y.is z0
      have kz1 : ∀ y : Kin wr, y.val.cell? ⟨w.heap.size, 1, none⟩ = _ := fun y => cell_on1 y.is z1
      have kne : Nonempty (Kin wr) := ⟨⟨_, Below.refl _ _⟩⟩
      clear hg' hi x1 x2 x3 x4 z0 z1
      cases hok : okR p with
      | false =>
        rw [hok] at hM
        have Hq : Hid (((l.take (k + 1)).countP (prsB h)) = C) := by have := Hst.out; rw [Hpq.out, hok] at this; show _ = _; simpa using this
        clear hok Hst Hpq
        go_upto_region 5 with (fail)
        refine wp_region_kin wr (Below.refl _ _) (by kernel_rfl) (by kernel_rfl) ?_
        iterate 3 (go_big_quiet_step (fail))
        refine wpQuiet_load_mid rfl 64 (.tmp 15) rfl g (off + k * 12) A rfl (range_kin H1.out) Tryz.underlying64 rfl Hi.out ?_
        simp only [List.getElem_toArray, List.getElem_cons_succ, List.getElem_cons_zero, Act.put, List.setIfInBounds_toArray, List.set_cons_zero, List.set_cons_succ]
        repeat (go_big_quiet_step (first | (go_at_call 40; exact kin_call (hM _))))
        refine wpQuiet_nil ?_
        rintro wq ⟨⟨xq, hxq⟩, hyq⟩
        have HB2 : Hid (Below w0.heap.size w0 wq) := by show Below _ _ _; rw [hyq]; exact bel_of HB.out hxq HB.out.size
        clear hyq hxq xq kne hM hH1 hH2 kx1 kx2 kx3 kx4 kz0 kz1 H1 Hi
        go_wp2_with (fail)
        go_roundw
        case rel => exact ⟨k + 1, by omega, by rw [Hq.out], by go_num, HB2.out⟩
        case measure => simp [intOf]; omega
      | true =>
        rw [hok] at hM
        cases h1 : Pf.hasB p.s p.sl h.s with
        | false =>
          rw [h1] at hH1
          have Hq : Hid (((l.take (k + 1)).countP (prsB h)) = C) := by have := Hst.out; rw [Hpq.out, hok, h1] at this; show _ = _; simpa using this
          clear hok h1 Hst Hpq
          go_upto_region 5 with (fail)
          refine wp_region_kin wr (Below.refl _ _) (by kernel_rfl) (by kernel_rfl) ?_
          iterate 3 (go_big_quiet_step (fail))
          refine wpQuiet_load_mid rfl 64 (.tmp 15) rfl g (off + k * 12) A rfl (range_kin H1.out) Tryz.underlying64 rfl Hi.out ?_
          simp only [List.getElem_toArray, List.getElem_cons_succ, List.getElem_cons_zero, Act.put, List.setIfInBounds_toArray, List.set_cons_zero, List.set_cons_succ]
          repeat (go_big_quiet_step (first | (go_at_call 40; exact kin_call (hM _)) | (go_at_call 41; exact kin_call (hH1 _))))
          refine wpQuiet_nil ?_
          rintro wq ⟨⟨xq, hxq⟩, hyq⟩
          have HB2 : Hid (Below w0.heap.size w0 wq) := by show Below _ _ _; rw [hyq]; exact bel_of HB.out hxq HB.out.size
          clear hyq hxq xq kne hM hH1 hH2 kx1 kx2 kx3 kx4 kz0 kz1 H1 Hi
          go_wp2_with (fail)
          go_roundw
          case rel => exact ⟨k + 1, by omega, by rw [Hq.out], by go_num, HB2.out⟩
          case measure => simp [intOf]; omega
        | true =>
          rw [h1] at hH1
          cases h2 : Pf.hasB p.d p.dl h.d with
          | false =>
            rw [h2] at hH2
            have Hq : Hid (((l.take (k + 1)).countP (prsB h)) = C) := by have := Hst.out; rw [Hpq.out, hok, h1, h2] at this; show _ = _; simpa using this
            clear hok h1 h2 Hst Hpq
            go_upto_region 5 with (fail)
            refine wp_region_kin wr (Below.refl _ _) (by kernel_rfl) (by kernel_rfl) ?_
            iterate 3 (go_big_quiet_step (fail))
            refine wpQuiet_load_mid rfl 64 (.tmp 15) rfl g (off + k * 12) A rfl (range_kin H1.out) Tryz.underlying64 rfl Hi.out ?_
            simp only [List.getElem_toArray, List.getElem_cons_succ, List.getElem_cons_zero, Act.put, List.setIfInBounds_toArray, List.set_cons_zero, List.set_cons_succ]
            repeat (go_big_quiet_step (first | (go_at_call 40; exact kin_call (hM _)) | (go_at_call_of 41 (Value.agg #[Value.int IntKind.u32 (p.s : Int), Value.int IntKind.i64 p.sl]); exact kin_call (hH1 _)) | (go_at_call_of 41 (Value.agg #[Value.int IntKind.u32 (p.d : Int), Value.int IntKind.i64 p.dl]); exact kin_call (hH2 _))))
            refine wpQuiet_nil ?_
            rintro wq ⟨⟨xq, hxq⟩, hyq⟩
            have HB2 : Hid (Below w0.heap.size w0 wq) := by show Below _ _ _; rw [hyq]; exact bel_of HB.out hxq HB.out.size
            clear hyq hxq xq kne hM hH1 hH2 kx1 kx2 kx3 kx4 kz0 kz1 H1 Hi
            go_wp2_with (fail)
            go_roundw
            case rel => exact ⟨k + 1, by omega, by rw [Hq.out], by go_num, HB2.out⟩
            case measure => simp [intOf]; omega
          | true =>
            rw [h2] at hH2
            have Hq : Hid (((l.take (k + 1)).countP (prsB h)) = C + 1) := by have := Hst.out; rw [Hpq.out, hok, h1, h2] at this; show _ = _; simpa using this
            clear hok h1 h2 Hst Hpq
            go_upto_region 5 with (fail)
            refine wp_region_kin wr (Below.refl _ _) (by kernel_rfl) (by kernel_rfl) ?_
            iterate 3 (go_big_quiet_step (fail))
            refine wpQuiet_load_mid rfl 64 (.tmp 15) rfl g (off + k * 12) A rfl (range_kin H1.out) Tryz.underlying64 rfl Hi.out ?_
            simp only [List.getElem_toArray, List.getElem_cons_succ, List.getElem_cons_zero, Act.put, List.setIfInBounds_toArray, List.set_cons_zero, List.set_cons_succ]
            repeat (go_big_quiet_step (first | (go_at_call 40; exact kin_call (hM _)) | (go_at_call_of 41 (Value.agg #[Value.int IntKind.u32 (p.s : Int), Value.int IntKind.i64 p.sl]); exact kin_call (hH1 _)) | (go_at_call_of 41 (Value.agg #[Value.int IntKind.u32 (p.d : Int), Value.int IntKind.i64 p.dl]); exact kin_call (hH2 _))))
            refine wpQuiet_nil ?_
            rintro wq ⟨⟨xq, hxq⟩, hyq⟩
            have HB2 : Hid (Below w0.heap.size w0 wq) := by show Below _ _ _; rw [hyq]; exact bel_of HB.out hxq HB.out.size
            clear hyq hxq xq kne hM hH1 hH2 kx1 kx2 kx3 kx4 kz0 kz1 H1 Hi
            go_wp2_with (fail)
            go_roundw
            case rel => exact ⟨k + 1, by omega, (by rw [Hq.out]; go_num), by go_num, HB2.out⟩
            case measure => simp [intOf]; omega
    · obtain rfl : k = n := by omega
      have hni : ¬ (k : Int) < (k : Int) := by omega
      rw [← Hend.out]
      go_wp2
      go_ret
      exact ⟨rfl, HBw.out⟩
end Go.Proofs.YtgidohnikggjfaaGreat
