/-
  The document's first.
-/
import Derived.Test.YtcjpjofoddpfhaaGreatNsRl
import Derived.Test.YtcjpjofoddpfhaaGreatNsAw
namespace Go.Proofs.YtcjpjofoddpfhaaGreat
open Go.RowKit
set_option linter.unusedVariables false
set_option linter.unusedSimpArgs false

theorem ok_lens {R : Ru} (h : okR R = true) : R.sl = (R.sl.toNat : Int) ∧ R.dl = (R.dl.toNat : Int) := by
  obtain ⟨_, h1, h2, _⟩ := (okR_iff R).1 h
  obtain ⟨m, e, _, _⟩ := Pf.chk_ok h1
  obtain ⟨m', e', _, _⟩ := Pf.chk_ok h2
  exact ⟨by omega, by omega⟩
/-- What a rule's prefixes read. -/
theorem rngP {w : World} {ad : Option Addr} {n cap : Nat} {l : List Ru} (h : SrcU w (.slice ad n cap) l) (ho : ∀ R ∈ l, okR R = true) : ∀ W, Below w.heap.size w W → ∀ k (hk : k < l.length), ∃ g off, ad = some ⟨g, off, none⟩ ∧
    W.cell? ⟨g, off + k * 12 + 1, none⟩ = some (.int .u32 ((sr (l[k]'hk)).1 : Int)) ∧ W.cell? ⟨g, off + k * 12 + 2, none⟩ = some (.int .i64 ((sr (l[k]'hk)).2 : Int)) ∧
    W.cell? ⟨g, off + k * 12 + 3, none⟩ = some (.int .u32 ((ds (l[k]'hk)).1 : Int)) ∧ W.cell? ⟨g, off + k * 12 + 4, none⟩ = some (.int .i64 ((ds (l[k]'hk)).2 : Int)) := by
  intro W hb k hk
  obtain ⟨g, off, e, hr⟩ := (rngU h).2 W hb k hk
  obtain ⟨e1, e2⟩ := ok_lens (ho _ (List.getElem_mem hk))
  refine ⟨g, off, e, hr 1 _ rfl, ?_, hr 3 _ rfl, ?_⟩
  · have := hr 2 _ rfl
    rw [this]
    show _ = some (Value.int .i64 (((l[k]).sl.toNat : Nat) : Int))
    rw [← e1]
  · have := hr 4 _ rfl
    rw [this]
    show _ = some (Value.int .i64 (((l[k]).dl.toNat : Nat) : Int))
    rw [← e2]
theorem rwitX (a b : Nat × Nat) (w : World) (ha : a.1 < 4294967296) (hb : b.1 < 4294967296) :
    Calls Tryz.prog 42 #[.agg #[.int .u32 (a.1), .int .i64 (a.2)], .agg #[.int .u32 (b.1), .int .i64 (b.2)]] w fun e w' => e = .returned (.bool (witX a b)) ∧ Below w.heap.size w w' := Pf.rwithin_any a.1 a.2 b.1 b.2 w ha hb
set_option maxRecDepth 20000 in
set_option maxHeartbeats 4000000 in
theorem rfirstS (l : List Ru) (v : Value) (i : Nat) (s : Nat × Nat) (w : World) (hs : SrcU w v l) (hl : l.length ≤ 64) (ho : ∀ R ∈ l, BdR R ∧ okR R = true) (hi : i < l.length) (h1 : s.1 < 4294967296) (B : Bool) (hB : B = true ↔ ∀ k (hk : k < l.length), k < i → ¬ (witX s (sr l[k]) = true ∧ sr l[k] = sr l[i])) :
    Calls Tryz.prog 41 #[v, .int .i64 (i : Int), .agg #[.int .u32 (s.1), .int .i64 (s.2)], .bool false] w fun e w' => e = .returned (.bool B) ∧ Below w.heap.size w w' := by
  have HS : Hid (SrcU w v l) := hs
  have HO : Hid (∀ R ∈ l, okR R = true) := fun R hR => (ho R hR).2
  have HO1 : Hid (∀ R ∈ l, R.s < 4294967296) := fun R hR => (ho R hR).1.1
  obtain ⟨ad, cap, rfl, _, _⟩ := hs
  obtain ⟨n, hn⟩ : ∃ n, n = l.length := ⟨_, rfl⟩
  have hin : i < n := by omega
  have hini : (i : Int) < (n : Int) := by omega
  rw [← hn] at HS hl ⊢
  have Hn : Hid (n = l.length) := hn
  have HBB : Hid _ := hB
  clear hn hB ho
  obtain ⟨w0, hw0⟩ : ∃ w0, w0 = w.alloc (.cells #[.int .u32 (s.1 : Int), .int .i64 (s.2 : Int)] 50) := ⟨_, rfl⟩
  have z0 : w0.cell? ⟨w.heap.size, 0, none⟩ = some (.int .u32 (s.1 : Int)) := by rw [hw0]; exact blk_cell (blk_new w _) rfl
  have z1 : w0.cell? ⟨w.heap.size, 1, none⟩ = some (.int .i64 (s.2 : Int)) := by rw [hw0]; exact blk_cell (blk_new w _) rfl
  have HB0 : Hid (Below w.heap.size w w0) := by rw [hw0]; exact (Below.refl _ _).alloc (Nat.le_refl _) _
  have Hz0 : Hid _ := z0
  have Hz1 : Hid _ := z1
  have hw0s : w.alloc (.cells #[.int .u32 (s.1 : Int), .int .i64 (s.2 : Int)] 50) = w0 := hw0.symm
  clear hw0 z0 z1
  go_enter Tryz.func41, Tryz.ntmps41
  go_wp2_with (fail)
  try simp only [hw0s]
  clear hw0s
  go_loopw [9] (fun vk wr => ∃ k : Nat, k ≤ i ∧ vk = .int .i64 (k : Int) ∧ Hid (∀ j (hj : j < l.length), j < k → ¬ (witX s (sr l[j]) = true ∧ sr l[j] = sr l[i])) ∧ Hid (Below w0.heap.size w0 wr)) (fun vk _ => i - (intOf vk).toNat)
  case atStart => exact ⟨0, Nat.zero_le _, rfl, fun j _ hj => by omega, Below.refl _ _⟩
  case round =>
    obtain ⟨k, hk, rfl, HN, HB⟩ := hrel
    have HBw : Hid (Below w.heap.size w wr) := bel_of HB0.out HB.out HB0.out.size
    by_cases hlt : k < i
    · have hlt' : k < l.length := by omega
      have hlti : (k : Int) < (i : Int) := by omega
      have hkn : (k : Int) < (n : Int) := by omega
      obtain ⟨g, off, ea, c1, c2, c3, c4⟩ := rngP HS.out HO.out wr HBw.out k hlt'
      subst ea
      obtain ⟨g', off', e', d1, d2, d3, d4⟩ := rngP HS.out HO.out wr HBw.out i hi
      injection e' with e'
      injection e' with e1 e2
      subst e1 e2
      have z0 := cell_on1 HB.out Hz0.out
      have z1 := cell_on1 HB.out Hz1.out
      have hp1 : (sr l[k]).1 < 4294967296 := HO1.out _ (List.getElem_mem hlt')
      obtain ⟨p, hp⟩ : ∃ p, p = sr l[k] := ⟨_, rfl⟩
      obtain ⟨p', hp'⟩ : ∃ p', p' = ds l[k] := ⟨_, rfl⟩
      obtain ⟨q, hq⟩ : ∃ q, q = sr l[i] := ⟨_, rfl⟩
      obtain ⟨q', hq'⟩ : ∃ q', q' = ds l[i] := ⟨_, rfl⟩
      rw [← hp] at c1 c2 hp1
      rw [← hp'] at c3 c4
      rw [← hq] at d1 d2
      rw [← hq'] at d3 d4
      have Hp : Hid (p = sr l[k] ∧ p' = ds l[k] ∧ q = sr l[i] ∧ q' = ds l[i]) := ⟨hp, hp', hq, hq'⟩
      have hW := fun W => rwitX s p W h1 hp1
      have he := fun W => eqX_any p q W
      have kc1 : ∀ y : Kin wr, y.val.cell? ⟨g, off + k * 12 + 1, none⟩ = _ := fun y => cell_on1 y.is c1
      have kc2 : ∀ y : Kin wr, y.val.cell? ⟨g, off + k * 12 + 2, none⟩ = _ := fun y => cell_on1 y.is c2
      have kc3 : ∀ y : Kin wr, y.val.cell? ⟨g, off + k * 12 + 3, none⟩ = _ := fun y => cell_on1 y.is c3
      have kc4 : ∀ y : Kin wr, y.val.cell? ⟨g, off + k * 12 + 4, none⟩ = _ := fun y => cell_on1 y.is c4
      have kd1 : ∀ y : Kin wr, y.val.cell? ⟨g, off + i * 12 + 1, none⟩ = _ := fun y => cell_on1 y.is d1
      have kd2 : ∀ y : Kin wr, y.val.cell? ⟨g, off + i * 12 + 2, none⟩ = _ := fun y => cell_on1 y.is d2
      have kd3 : ∀ y : Kin wr, y.val.cell? ⟨g, off + i * 12 + 3, none⟩ = _ := fun y => cell_on1 y.is d3
      have kd4 : ∀ y : Kin wr, y.val.cell? ⟨g, off + i * 12 + 4, none⟩ = _ := fun y => cell_on1 y.is d4
      have kz0 : ∀ y : Kin wr, y.val.cell? ⟨w.heap.size, 0, none⟩ = _ := fun y => cell_on1 y.is z0
      have kz1 : ∀ y : Kin wr, y.val.cell? ⟨w.heap.size, 1, none⟩ = _ := fun y => cell_on1 y.is z1
      have kne : Nonempty (Kin wr) := ⟨⟨_, Below.refl _ _⟩⟩
      clear c1 c2 c3 c4 d1 d2 d3 d4 z0 z1 hp hp' hq hq'
      cases hwi : witX s p with
      | false =>
        rw [hwi] at hW
        have HN2 : Hid (∀ j (hj : j < l.length), j < k + 1 → ¬ (witX s (sr l[j]) = true ∧ sr l[j] = sr l[i])) := fun j hj hjk => by
          by_cases e : j = k
          · subst e; rintro ⟨h, _⟩; rw [← Hp.out.1, hwi] at h; cases h
          · exact HN.out j hj (by omega)
        clear hwi he kc3 kc4 kd1 kd2 kd3 kd4
        go_upto_region 4 with (fail)
        refine wp_region_kin wr (Below.refl _ _) (by kernel_rfl) (by kernel_rfl) ?_
        repeat (go_big_quiet_step (first | (go_at_call 42; exact kin_call (hW _))))
        refine wpQuiet_nil ?_
        rintro wq ⟨⟨xq, hxq⟩, hyq⟩
        have hq : Below wr.heap.size wr wq := by rw [hyq]; exact hxq
        have HB2 : Hid (Below w0.heap.size w0 wq) := bel_of HB.out hq HB.out.size
        clear hyq hxq xq kne kc1 kc2 kz0 kz1 hq hW
        go_wp2_with (fail)
        go_roundw
        case rel => exact ⟨k + 1, by omega, by go_num, HN2.out, HB2.out⟩
        case measure => simp [intOf]; omega
      | true =>
        rw [hwi] at hW
        by_cases hpq : p = q
        · rw [decide_eq_true hpq] at he
          have Hno : Hid (B = false) := by
            cases hBc : B with
            | false => rfl
            | true => exact absurd ⟨by rw [← Hp.out.1]; exact hwi, by rw [← Hp.out.1, ← Hp.out.2.2.1]; exact hpq⟩ (HBB.out.1 hBc k hlt' hlt)
          clear hwi hpq
          go_upto_region 4 with (fail)
          refine wp_region_kin wr (Below.refl _ _) (by kernel_rfl) (by kernel_rfl) ?_
          repeat (go_big_quiet_step (first | (go_at_call 42; exact kin_call (hW _))))
          refine wpQuiet_nil ?_
          rintro wq ⟨⟨xq, hxq⟩, hyq⟩
          have hq : Below wr.heap.size wr wq := by rw [hyq]; exact hxq
          have HB2 : Hid (Below w0.heap.size w0 wq) := bel_of HB.out hq HB.out.size
          clear hyq hxq xq kne kc1 kc2 kc3 kc4 kd1 kd2 kd3 kd4 kz0 kz1 hq hW he
          go_wp2_with (fail)
          go_ret
          exact ⟨ret_same Hno.out.symm, bel_of HB0.out HB2.out HB0.out.size⟩
        · rw [decide_eq_false hpq] at he
          have HN2 : Hid (∀ j (hj : j < l.length), j < k + 1 → ¬ (witX s (sr l[j]) = true ∧ sr l[j] = sr l[i])) := fun j hj hjk => by
            by_cases e : j = k
            · subst e; rintro ⟨_, h⟩; rw [← Hp.out.1, ← Hp.out.2.2.1] at h; exact hpq h
            · exact HN.out j hj (by omega)
          clear hwi hpq
          go_upto_region 4 with (fail)
          refine wp_region_kin wr (Below.refl _ _) (by kernel_rfl) (by kernel_rfl) ?_
          repeat (go_big_quiet_step (first | (go_at_call 42; exact kin_call (hW _))))
          refine wpQuiet_nil ?_
          rintro wq ⟨⟨xq, hxq⟩, hyq⟩
          have hq : Below wr.heap.size wr wq := by rw [hyq]; exact hxq
          have HB2 : Hid (Below w0.heap.size w0 wq) := bel_of HB.out hq HB.out.size
          clear hyq hxq xq kne kc1 kc2 kc3 kc4 kd1 kd2 kd3 kd4 kz0 kz1 hq hW he
          go_wp2_with (fail)
          go_roundw
          case rel => exact ⟨k + 1, by omega, by go_num, HN2.out, HB2.out⟩
          case measure => simp [intOf]; omega
    · obtain rfl : k = i := by omega
      have hnk : ¬ (k : Int) < (k : Int) := by omega
      have Hyes : Hid (B = true) := HBB.out.2 HN.out
      go_wp2_with (fail)
      go_ret
      exact ⟨ret_same Hyes.out.symm, HBw.out⟩
set_option maxRecDepth 20000 in
set_option maxHeartbeats 4000000 in
theorem rfirstD (l : List Ru) (v : Value) (i : Nat) (s : Nat × Nat) (w : World) (hs : SrcU w v l) (hl : l.length ≤ 64) (ho : ∀ R ∈ l, BdR R ∧ okR R = true) (hi : i < l.length) (h1 : s.1 < 4294967296) (B : Bool) (hB : B = true ↔ ∀ k (hk : k < l.length), k < i → ¬ (witX s (sr l[k]) = true ∧ ds l[k] = ds l[i])) :
    Calls Tryz.prog 41 #[v, .int .i64 (i : Int), .agg #[.int .u32 (s.1), .int .i64 (s.2)], .bool true] w fun e w' => e = .returned (.bool B) ∧ Below w.heap.size w w' := by
  have HS : Hid (SrcU w v l) := hs
  have HO : Hid (∀ R ∈ l, okR R = true) := fun R hR => (ho R hR).2
  have HO1 : Hid (∀ R ∈ l, R.s < 4294967296) := fun R hR => (ho R hR).1.1
  obtain ⟨ad, cap, rfl, _, _⟩ := hs
  obtain ⟨n, hn⟩ : ∃ n, n = l.length := ⟨_, rfl⟩
  have hin : i < n := by omega
  have hini : (i : Int) < (n : Int) := by omega
  rw [← hn] at HS hl ⊢
  have Hn : Hid (n = l.length) := hn
  have HBB : Hid _ := hB
  clear hn hB ho
  obtain ⟨w0, hw0⟩ : ∃ w0, w0 = w.alloc (.cells #[.int .u32 (s.1 : Int), .int .i64 (s.2 : Int)] 50) := ⟨_, rfl⟩
  have z0 : w0.cell? ⟨w.heap.size, 0, none⟩ = some (.int .u32 (s.1 : Int)) := by rw [hw0]; exact blk_cell (blk_new w _) rfl
  have z1 : w0.cell? ⟨w.heap.size, 1, none⟩ = some (.int .i64 (s.2 : Int)) := by rw [hw0]; exact blk_cell (blk_new w _) rfl
  have HB0 : Hid (Below w.heap.size w w0) := by rw [hw0]; exact (Below.refl _ _).alloc (Nat.le_refl _) _
  have Hz0 : Hid _ := z0
  have Hz1 : Hid _ := z1
  have hw0s : w.alloc (.cells #[.int .u32 (s.1 : Int), .int .i64 (s.2 : Int)] 50) = w0 := hw0.symm
  clear hw0 z0 z1
  go_enter Tryz.func41, Tryz.ntmps41
  go_wp2_with (fail)
  try simp only [hw0s]
  clear hw0s
  go_loopw [9] (fun vk wr => ∃ k : Nat, k ≤ i ∧ vk = .int .i64 (k : Int) ∧ Hid (∀ j (hj : j < l.length), j < k → ¬ (witX s (sr l[j]) = true ∧ ds l[j] = ds l[i])) ∧ Hid (Below w0.heap.size w0 wr)) (fun vk _ => i - (intOf vk).toNat)
  case atStart => exact ⟨0, Nat.zero_le _, rfl, fun j _ hj => by omega, Below.refl _ _⟩
  case round =>
    obtain ⟨k, hk, rfl, HN, HB⟩ := hrel
    have HBw : Hid (Below w.heap.size w wr) := bel_of HB0.out HB.out HB0.out.size
    by_cases hlt : k < i
    · have hlt' : k < l.length := by omega
      have hlti : (k : Int) < (i : Int) := by omega
      have hkn : (k : Int) < (n : Int) := by omega
      obtain ⟨g, off, ea, c1, c2, c3, c4⟩ := rngP HS.out HO.out wr HBw.out k hlt'
      subst ea
      obtain ⟨g', off', e', d1, d2, d3, d4⟩ := rngP HS.out HO.out wr HBw.out i hi
      injection e' with e'
      injection e' with e1 e2
      subst e1 e2
      have z0 := cell_on1 HB.out Hz0.out
      have z1 := cell_on1 HB.out Hz1.out
      have hp1 : (sr l[k]).1 < 4294967296 := HO1.out _ (List.getElem_mem hlt')
      obtain ⟨p, hp⟩ : ∃ p, p = sr l[k] := ⟨_, rfl⟩
      obtain ⟨p', hp'⟩ : ∃ p', p' = ds l[k] := ⟨_, rfl⟩
      obtain ⟨q, hq⟩ : ∃ q, q = sr l[i] := ⟨_, rfl⟩
      obtain ⟨q', hq'⟩ : ∃ q', q' = ds l[i] := ⟨_, rfl⟩
      rw [← hp] at c1 c2 hp1
      rw [← hp'] at c3 c4
      rw [← hq] at d1 d2
      rw [← hq'] at d3 d4
      have Hp : Hid (p = sr l[k] ∧ p' = ds l[k] ∧ q = sr l[i] ∧ q' = ds l[i]) := ⟨hp, hp', hq, hq'⟩
      have hW := fun W => rwitX s p W h1 hp1
      have he := fun W => eqX_any p' q' W
      have kc1 : ∀ y : Kin wr, y.val.cell? ⟨g, off + k * 12 + 1, none⟩ = _ := fun y => cell_on1 y.is c1
      have kc2 : ∀ y : Kin wr, y.val.cell? ⟨g, off + k * 12 + 2, none⟩ = _ := fun y => cell_on1 y.is c2
      have kc3 : ∀ y : Kin wr, y.val.cell? ⟨g, off + k * 12 + 3, none⟩ = _ := fun y => cell_on1 y.is c3
      have kc4 : ∀ y : Kin wr, y.val.cell? ⟨g, off + k * 12 + 4, none⟩ = _ := fun y => cell_on1 y.is c4
      have kd1 : ∀ y : Kin wr, y.val.cell? ⟨g, off + i * 12 + 1, none⟩ = _ := fun y => cell_on1 y.is d1
      have kd2 : ∀ y : Kin wr, y.val.cell? ⟨g, off + i * 12 + 2, none⟩ = _ := fun y => cell_on1 y.is d2
      have kd3 : ∀ y : Kin wr, y.val.cell? ⟨g, off + i * 12 + 3, none⟩ = _ := fun y => cell_on1 y.is d3
      have kd4 : ∀ y : Kin wr, y.val.cell? ⟨g, off + i * 12 + 4, none⟩ = _ := fun y => cell_on1 y.is d4
      have kz0 : ∀ y : Kin wr, y.val.cell? ⟨w.heap.size, 0, none⟩ = _ := fun y => cell_on1 y.is z0
      have kz1 : ∀ y : Kin wr, y.val.cell? ⟨w.heap.size, 1, none⟩ = _ := fun y => cell_on1 y.is z1
      have kne : Nonempty (Kin wr) := ⟨⟨_, Below.refl _ _⟩⟩
      clear c1 c2 c3 c4 d1 d2 d3 d4 z0 z1 hp hp' hq hq'
      cases hwi : witX s p with
      | false =>
        rw [hwi] at hW
        have HN2 : Hid (∀ j (hj : j < l.length), j < k + 1 → ¬ (witX s (sr l[j]) = true ∧ ds l[j] = ds l[i])) := fun j hj hjk => by
          by_cases e : j = k
          · subst e; rintro ⟨h, _⟩; rw [← Hp.out.1, hwi] at h; cases h
          · exact HN.out j hj (by omega)
        clear hwi he kc3 kc4 kd1 kd2 kd3 kd4
        go_upto_region 4 with (fail)
        refine wp_region_kin wr (Below.refl _ _) (by kernel_rfl) (by kernel_rfl) ?_
        repeat (go_big_quiet_step (first | (go_at_call 42; exact kin_call (hW _))))
        refine wpQuiet_nil ?_
        rintro wq ⟨⟨xq, hxq⟩, hyq⟩
        have hq : Below wr.heap.size wr wq := by rw [hyq]; exact hxq
        have HB2 : Hid (Below w0.heap.size w0 wq) := bel_of HB.out hq HB.out.size
        clear hyq hxq xq kne kc1 kc2 kz0 kz1 hq hW
        go_wp2_with (fail)
        go_roundw
        case rel => exact ⟨k + 1, by omega, by go_num, HN2.out, HB2.out⟩
        case measure => simp [intOf]; omega
      | true =>
        rw [hwi] at hW
        by_cases hpq : p' = q'
        · rw [decide_eq_true hpq] at he
          have Hno : Hid (B = false) := by
            cases hBc : B with
            | false => rfl
            | true => exact absurd ⟨by rw [← Hp.out.1]; exact hwi, by rw [← Hp.out.2.1, ← Hp.out.2.2.2]; exact hpq⟩ (HBB.out.1 hBc k hlt' hlt)
          clear hwi hpq
          go_upto_region 4 with (fail)
          refine wp_region_kin wr (Below.refl _ _) (by kernel_rfl) (by kernel_rfl) ?_
          repeat (go_big_quiet_step (first | (go_at_call 42; exact kin_call (hW _))))
          refine wpQuiet_nil ?_
          rintro wq ⟨⟨xq, hxq⟩, hyq⟩
          have hq : Below wr.heap.size wr wq := by rw [hyq]; exact hxq
          have HB2 : Hid (Below w0.heap.size w0 wq) := bel_of HB.out hq HB.out.size
          clear hyq hxq xq kne kc1 kc2 kc3 kc4 kd1 kd2 kd3 kd4 kz0 kz1 hq hW he
          go_wp2_with (fail)
          go_ret
          exact ⟨ret_same Hno.out.symm, bel_of HB0.out HB2.out HB0.out.size⟩
        · rw [decide_eq_false hpq] at he
          have HN2 : Hid (∀ j (hj : j < l.length), j < k + 1 → ¬ (witX s (sr l[j]) = true ∧ ds l[j] = ds l[i])) := fun j hj hjk => by
            by_cases e : j = k
            · subst e; rintro ⟨_, h⟩; rw [← Hp.out.2.1, ← Hp.out.2.2.2] at h; exact hpq h
            · exact HN.out j hj (by omega)
          clear hwi hpq
          go_upto_region 4 with (fail)
          refine wp_region_kin wr (Below.refl _ _) (by kernel_rfl) (by kernel_rfl) ?_
          repeat (go_big_quiet_step (first | (go_at_call 42; exact kin_call (hW _))))
          refine wpQuiet_nil ?_
          rintro wq ⟨⟨xq, hxq⟩, hyq⟩
          have hq : Below wr.heap.size wr wq := by rw [hyq]; exact hxq
          have HB2 : Hid (Below w0.heap.size w0 wq) := bel_of HB.out hq HB.out.size
          clear hyq hxq xq kne kc1 kc2 kc3 kc4 kd1 kd2 kd3 kd4 kz0 kz1 hq hW he
          go_wp2_with (fail)
          go_roundw
          case rel => exact ⟨k + 1, by omega, by go_num, HN2.out, HB2.out⟩
          case measure => simp [intOf]; omega
    · obtain rfl : k = i := by omega
      have hnk : ¬ (k : Int) < (k : Int) := by omega
      have Hyes : Hid (B = true) := HBB.out.2 HN.out
      go_wp2_with (fail)
      go_ret
      exact ⟨ret_same Hyes.out.symm, HBw.out⟩
end Go.Proofs.YtcjpjofoddpfhaaGreat
